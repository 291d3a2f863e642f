/-
  A map of ints to slices in memory: which keys it has, and the slice at each.
-/
import Derived.Test.YtilelklcfgemoaaRw
import Derived.Maps.OwnSet
import Derived.Maps.RangeWalk
import Derived.Maps.Ext
import Derived.Lib.SlKeysI
namespace Go.Proofs.Ytilelklcfgemoaa
open Go.RowKit
open Go.Maps (Keyed)
set_option linter.unusedVariables false

/-- A slot of a map reads as it is. -/
def RV (v : Value) : Option (DataW Value × List MemPlace) := some (.held v, [])
/-- A number as a key. -/
abbrev kl (k : Int) : Lit := .int .i64 k
theorem law3 : Keyed Try.prog 3 := Maps.int_keyed Try.underlying3
theorem key3 {k : Int} (h : (Lit.int .i64 k).wf = true) : keyOf Try.prog 3 (.int .i64 k) = some (kl k) := Maps.keyOf_int_mk Try.underlying3 h
theorem zero36 (w : World) : (zeroValue 36).run Try.prog w = .ok (.slice none 0 0) w := by kernel_rfl
theorem wf_nat {n : Nat} (h : n < 9223372036854775808) : (Lit.int .i64 (n : Int)).wf = true := by
  simp [Lit.wf, IntKind.min, IntKind.max, IntKind.bits, IntKind.signed]; omega
/-- The block b is a map that has the entries m. -/
structure Mp (w : World) (b : Nat) (m : List (Int × Value)) : Prop where
  own : ∃ D, w.ownsMap Try.prog 3 RV b m.length D ∧ (∀ k, Maps.has D (kl k) = m.any (fun x => x.1 == k)) ∧ (∀ x ∈ m, ∀ z, D.atKey (kl x.1) z = .held x.2) ∧ (∀ x, Maps.has D x = true → ∃ k, x = kl k)
  nodup : (m.map (·.1)).Nodup
  wf : ∀ x ∈ m, (Lit.int .i64 x.1).wf = true
theorem Mp.lt {w : World} {b : Nat} {m : List (Int × Value)} (h : Mp w b m) : b < w.heap.size := by
  obtain ⟨D, h1, _⟩ := h.own
  exact h1.lt
theorem ownsMap_keep {S : List Nat} {w w' : World} {b n : Nat} {D : DataW Value} (h : w.ownsMap Try.prog 3 RV b n D) (k : Kept S w w') (hn : b ∉ S) : w'.ownsMap Try.prog 3 RV b n D := by
  obtain ⟨es, clock, hb, F, hs, hD⟩ := h
  exact ⟨es, clock, k.keeps hb hn, F, hs, hD⟩
theorem Mp.kept {S : List Nat} {w w' : World} {b : Nat} {m : List (Int × Value)} (h : Mp w b m) (k : Kept S w w') (hn : b ∉ S) : Mp w' b m := by
  obtain ⟨D, h1, h2⟩ := h.own
  exact ⟨⟨D, ownsMap_keep h1 k hn, h2⟩, h.nodup, h.wf⟩
theorem Mp.made (w : World) : Mp (w.alloc (.map #[] 0)) w.heap.size [] :=
  ⟨⟨.map [], World.ownsMap_made w Try.prog 3 RV, fun k => rfl, by simp, fun x h => by simp [Maps.has] at h⟩, by simp, by simp⟩
theorem any_mem {m : List (Int × Value)} {k : Int} {v : Value} (h : (k, v) ∈ m) : m.any (fun x => x.1 == k) = true := List.any_eq_true.2 ⟨_, h, by simp⟩
theorem any_not {m : List (Int × Value)} {k : Int} (h : k ∉ m.map (·.1)) : m.any (fun x => x.1 == k) = false := by
  rw [List.any_eq_false]
  intro x hx
  simp
  rintro rfl
  exact h (List.mem_map.2 ⟨x, hx, rfl⟩)
/-- 'v, ok := m[k]', of a key that is there. -/
theorem Mp.look {w : World} {b : Nat} {m : List (Int × Value)} (h : Mp w b m) {k : Int} {v : Value} (hm : (k, v) ∈ m) : (Instr.lookup 60 (.map (some b)) (.int .i64 k) true).run Try.prog w = .ok (.tuple #[v, .bool true]) w := by
  obtain ⟨D, h1, h2, h3, _⟩ := h.own
  obtain ⟨v', ps, hrun, hv⟩ := h1.look_ok law3 Try.underlying60 (zero36 w) (zd := .held (.slice none 0 0)) (zp := []) rfl (key3 (h.wf _ hm))
  rw [h2, any_mem hm] at hrun
  rw [h3 _ hm] at hv
  unfold RV at hv
  simp at hv
  rw [hrun, hv.1]
/-- .. of one that is not. -/
theorem Mp.look_none {w : World} {b : Nat} {m : List (Int × Value)} (h : Mp w b m) {k : Int} (hw : (Lit.int .i64 k).wf = true) (hm : k ∉ m.map (·.1)) : (Instr.lookup 60 (.map (some b)) (.int .i64 k) true).run Try.prog w = .ok (.tuple #[.slice none 0 0, .bool false]) w := by
  obtain ⟨D, h1, h2, h3, _⟩ := h.own
  obtain ⟨v', ps, hrun, hv⟩ := h1.look_ok law3 Try.underlying60 (zero36 w) (zd := .held (.slice none 0 0)) (zp := []) rfl (key3 hw)
  rw [h2, any_not hm] at hrun
  rw [Maps.atKey_of_not_has (by rw [h2, any_not hm])] at hv
  unfold RV at hv
  simp at hv
  rw [hrun, hv.1]
/-- 'm[k]', of a key that is there. -/
theorem Mp.get {w : World} {b : Nat} {m : List (Int × Value)} (h : Mp w b m) {k : Int} {v : Value} (hm : (k, v) ∈ m) : (Instr.lookup 60 (.map (some b)) (.int .i64 k) false).run Try.prog w = .ok v w := by
  obtain ⟨D, h1, h2, h3, _⟩ := h.own
  obtain ⟨v', ps, hrun, hv⟩ := h1.lookup law3 Try.underlying60 (zero36 w) (zd := .held (.slice none 0 0)) (zp := []) rfl (key3 (h.wf _ hm))
  rw [h3 _ hm] at hv
  unfold RV at hv
  simp at hv
  rw [hrun, hv.1]
theorem Mp.get_none {w : World} {b : Nat} {m : List (Int × Value)} (h : Mp w b m) {k : Int} (hw : (Lit.int .i64 k).wf = true) (hm : k ∉ m.map (·.1)) : (Instr.lookup 60 (.map (some b)) (.int .i64 k) false).run Try.prog w = .ok (.slice none 0 0) w := by
  obtain ⟨D, h1, h2, h3, _⟩ := h.own
  obtain ⟨v', ps, hrun, hv⟩ := h1.lookup law3 Try.underlying60 (zero36 w) (zd := .held (.slice none 0 0)) (zp := []) rfl (key3 hw)
  rw [Maps.atKey_of_not_has (by rw [h2, any_not hm])] at hv
  unfold RV at hv
  simp at hv
  rw [hrun, hv.1]
theorem kept_map {w w' : World} {b : Nat} (h : w.grownBy w' (some b)) : Kept [b] w w' := (Kept.refl [b] w).grown h (fun k hk => .inl (by simp at hk; simp [hk]))
/-- 'm[k] = v', of a new key. -/
theorem Mp.put {w : World} {b : Nat} {m : List (Int × Value)} (h : Mp w b m) {k : Int} (v : Value) (hw : (Lit.int .i64 k).wf = true) (hm : k ∉ m.map (·.1)) (hn : m.length < 1000000) :
    ∃ w', (Instr.mapUpdate 60 (.map (some b)) (.int .i64 k) v).run Try.prog w = .ok () w' ∧ Mp w' b (m ++ [(k, v)]) ∧ Kept [b] w w' := by
  obtain ⟨D, h1, h2, h3, h4⟩ := h.own
  obtain ⟨w', hrun, h1', hg⟩ := h1.update law3 Try.underlying60 (by unfold maxLen; omega) (val := v) (d := .held v) (ps := []) (key3 hw) rfl
  have hKey := law3.key (key3 hw)
  refine ⟨w', hrun, ⟨⟨D.put (kl k) (.held v), by rw [List.length_append]; exact h1', fun x => ?_, fun x hx z => ?_, fun x hx => ?_⟩, ?_, ?_⟩, kept_map hg⟩
  · rw [List.any_append]
    by_cases hx : x = k
    · subst hx
      rw [Maps.has_put_same h1.isMap hKey]
      simp
    · rw [Maps.has_put_other (by simp [kl]; exact hx), h2]
      have : (k == x) = false := by simp; exact fun e => hx e.symm
      simp [this]
  · rcases List.mem_append.1 hx with hx | hx
    · have : x.1 ≠ k := fun e => hm (List.mem_map.2 ⟨x, hx, e⟩)
      rw [Maps.atKey_put_other (by simp [kl]; exact this)]
      exact h3 x hx z
    · simp at hx
      subst hx
      exact Maps.atKey_put_same h1.isMap hKey _ _
  · by_cases he : x = kl k
    · exact ⟨k, he⟩
    · rw [Maps.has_put_other he] at hx
      exact h4 x hx
  · rw [List.map_append, List.nodup_append]
    refine ⟨h.nodup, by simp, fun a ha c hc e => ?_⟩
    simp at hc
    subst hc e
    exact hm ha
  · intro x hx
    rcases List.mem_append.1 hx with hx | hx
    · exact h.wf x hx
    · simp at hx; subst hx; exact hw
set_option maxRecDepth 4000 in
/-- 'delete(m, k)'. -/
theorem Mp.del {w : World} {b : Nat} {m : List (Int × Value)} (h : Mp w b m) {k : Int} {v : Value} (hm : (k, v) ∈ m) (ty : TypeId) :
    ∃ w', (Builtin.delete_ #[60, 3] ty #[.map (some b), .int .i64 k]).run Try.prog w = .ok (.tuple #[]) w' ∧ Mp w' b (m.filter fun x => x.1 != k) ∧ Kept [b] w w' := by
  obtain ⟨D, h1, h2, h3, h4⟩ := h.own
  obtain ⟨w', hrun, h1', hg⟩ := h1.drop law3 Try.underlying60 (key3 (h.wf _ hm)) ty
  have hsz : Maps.size (D.del (kl k)) ≤ (m.filter fun x => x.1 != k).length := by
    have e1 := Maps.size_del (k := kl k) (h1.tidy law3)
    rw [h2, any_mem hm, if_pos rfl] at e1
    have e2 := h1.size_le
    have e3 : (m.filter fun x => x.1 != k).length + 1 = m.length := by
      clear h1 h2 h3 h4 h1' hrun hg e1 e2
      have hn := h.nodup
      clear h
      induction m with
      | nil => simp at hm
      | cons x t ih =>
        simp only [List.map_cons, List.nodup_cons] at hn
        rcases List.mem_cons.1 hm with rfl | hm
        · have : t.filter (fun x => x.1 != k) = t := by
            rw [List.filter_eq_self]
            intro y hy
            simp
            rintro rfl
            exact hn.1 (List.mem_map.2 ⟨y, hy, rfl⟩)
          simp [this]
        · have hx : x.1 ≠ k := fun e => hn.1 (List.mem_map.2 ⟨_, hm, e.symm⟩)
          have := ih hm hn.2
          simp [hx]
          exact this
    omega
  refine ⟨w', hrun, ⟨⟨D.del (kl k), ?_, fun x => ?_, fun x hx z => ?_, fun x hx => ?_⟩, ?_, fun x hx => h.wf x (List.mem_filter.1 hx).1⟩, kept_map hg.grown⟩
  · obtain ⟨es, clock, hb, F, hs, hD⟩ := h1'
    refine ⟨es, clock, hb, F, ?_, hD⟩
    rw [hD] at hsz
    simpa [Maps.size, length_sorted] using hsz
  · by_cases hx : x = k
    · subst hx
      rw [Maps.has_del_same]
      simp
    · rw [Maps.has_del_other (by simp [kl]; exact hx), h2, List.any_filter]
      congr 1
      funext y
      by_cases hy : y.1 = x
      · simp [hy, hx]
      · have : (y.1 == x) = false := by simpa using hy
        simp [this]
  · have hx' := List.mem_filter.1 hx
    rw [Maps.atKey_del_other (by simp [kl]; simpa using hx'.2)]
    exact h3 x hx'.1 z
  · by_cases he : x = kl k
    · exact ⟨k, he⟩
    · rw [Maps.has_del_other he] at hx
      exact h4 x hx
  · exact (List.filter_sublist.map _).nodup h.nodup
/-- The keys, in whatever order. -/
theorem Mp.keys {w : World} {b : Nat} {m : List (Int × Value)} (h : Mp w b m) : ∃ D, w.ownsMap Try.prog 3 RV b m.length D ∧ Maps.size D ≤ m.length ∧ (m.map (·.1)).Perm (intKeys D) := by
  obtain ⟨D, h1, h2, h3, h4⟩ := h.own
  refine ⟨D, h1, h1.size_le, ?_⟩
  obtain ⟨es, rfl, hp, hk⟩ := h1.entries law3
  refine perm_intKeys hp (fun p hp' => ?_) h.nodup (fun x => ?_)
  · exact h4 p.1 (List.any_eq_true.2 ⟨p, hp', WideAt.sameKey_self (hk p hp')⟩)
  · rw [h2, List.any_eq_true, List.mem_map]
    simp
end Go.Proofs.Ytilelklcfgemoaa
