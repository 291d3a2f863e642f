/-
  slices.Clone; Put.
-/
import Derived.Test.YtilelklcfgemoaaWr
namespace Go.Proofs.Ytilelklcfgemoaa
open Go.RowKit
set_option linter.unusedVariables false

theorem nil_eq (w : World) : (binOp .eql 36 (.slice none 0 0) (.slice none 0 0)).run Try.prog w = .ok (.bool true) w := by kernel_rfl
theorem nil_ne (a : Addr) (n c : Nat) (w : World) : (binOp .eql 36 (.slice (some a) n c) (.slice none 0 0)).run Try.prog w = .ok (.bool false) w := by kernel_rfl
theorem frs_empty (w : World) : FrS (w.alloc (.cells #[] 3)) (.slice (some ⟨w.heap.size, 0, none⟩) 0 0) [] :=
  .inr ⟨w.heap.size, 0, 0, rfl, Nat.le_refl _, by unfold maxLen; omega, by simp, fun j hj => by omega, fun j u hu => by simp at hu⟩
set_option maxRecDepth 100000 in
set_option maxHeartbeats 400000 in
theorem cloneI_nil (w : World) : Calls Try.prog 35 #[.slice none 0 0] w fun e w' => e = .returned (.slice none 0 0) ∧ w = w' := by
  have hq := nil_eq
  go_enter Try.func35, Try.ntmps35
  go_wp2
  go_ret
  exact ⟨rfl, rfl⟩
set_option maxRecDepth 100000 in
set_option maxHeartbeats 400000 in
theorem cloneI_some {w : World} (a : Addr) (c : Nat) (l : List Nat) (h : ReadsI w (.slice (some a) l.length c) l) (hl : l.length ≤ 100000) : Calls Try.prog 35 #[.slice (some a) l.length c] w fun e w' => ∃ v', e = .returned v' ∧ FrS w' v' l ∧ Kept [] w w' ∧ Fresh w v' := by
  have k0 := kept_alloc w (.cells #[] 3)
  obtain ⟨ad, c', w', hrun, hF, k, hN⟩ := (frs_empty w).append (h.kept k0 (by simp)) (by simp; omega)
  rw [List.nil_append] at hF
  have kk : Kept [] w w' := k0.trans k (fun x hx => .inr (by simp [Value.ownBlock] at hx; omega))
  have hFr : Fresh w (.slice ad ([].length + l.length) c') := fun g hg => by
    rcases hN g hg with h | h
    · simp [Value.ownBlock] at h; omega
    · have := k0.size; omega
  have hfin := Hid.mk (And.intro hF (And.intro kk hFr))
  clear hF kk hFr k hN k0 h
  obtain ⟨n, hn⟩ : ∃ n, ([] : List Nat).length + l.length = n := ⟨_, rfl⟩
  rw [hn] at hrun hfin
  clear hn
  have hq := nil_ne a
  go_enter Try.func35, Try.ntmps35
  go_wp2_with (at_builtin; refine wpList_append_run 36 _ _ rfl rfl _ _ rfl rfl _ _ hrun ?_)
  go_ret
  exact ⟨_, rfl, hfin.out⟩
/-- slices.Clone. -/
theorem clone_ints {w : World} (v : Value) (l : List Nat) (h : ReadsI w v l) (hl : l.length ≤ 100000) : Calls Try.prog 35 #[v] w fun e w' => ∃ v', e = .returned v' ∧ FrS w' v' l ∧ Kept [] w w' ∧ Fresh w v' := by
  obtain ⟨a, c, rfl, h2, h3, h4, h5⟩ := id h
  cases a with
  | none =>
    have hc := h4 rfl
    have : l = [] := List.eq_nil_of_length_eq_zero (by omega)
    subst this hc
    exact (cloneI_nil w).mono fun e w' ⟨he, hw⟩ => ⟨_, he, FrS.nil w', hw ▸ Kept.refl [] w, fun g hg => by simp [Value.ownBlock] at hg⟩
  | some a => exact cloneI_some a c l h hl
/-- 'v[:k]'. -/
theorem cut_to {w : World} {v : Value} {fl : List Nat} (h : FrS w v fl) (k : Nat) (hk : k ≤ fl.length) : ∃ a' c', (∀ W, (Instr.slice 36 v none (some (.int .i64 (k : Int))) none).run Try.prog W = .ok (.slice a' k c') W) ∧ ReadsI w (.slice a' k c') (fl.take k) := by
  have ht' : Try.prog.underlying 36 = some (.slice (Try.prog.elem 36)) := by simp [Program.elem, Try.underlying36]
  have he : Try.prog.elem 36 = 3 := by simp [Program.elem, Try.underlying36]
  obtain ⟨i0, hi, hz0, hz1, hz2⟩ := info_parts inf3
  have hz : ∀ w, (Go.sizeOf 3).run Try.prog w = .ok 1 w := fun w => by simp [Go.sizeOf, typeInfo, hi, hz1]
  have hlt : (fl.take k).length = k := by rw [List.length_take]; omega
  rcases h with ⟨rfl, rfl⟩ | ⟨g, o, c, rfl, h2, h3, h4, h5, h6⟩
  · simp at hk
    subst hk
    refine ⟨none, 0, fun W => ?_, ReadsI.nil w⟩
    rw [run_slice_h W 36 _ _ _ ht' .i64 _ (by omega) (by omega), he, hz]
    simp [Result.andThen, sliced]
  · refine ⟨some ⟨g, o, none⟩, c, fun W => ?_, ?_⟩
    · rw [run_slice_h W 36 _ _ _ ht' .i64 _ (by omega) (by omega), he, hz]
      have e3 : (⟨g, o, none⟩ : Addr).add 0 = ⟨g, o, none⟩ := by unfold Addr.add; split <;> simp_all
      by_cases hc : c = 0
      · simp [Result.andThen, sliced, hc]
      · simp [Result.andThen, sliced, hc, e3]
    · refine ⟨_, c, by rw [hlt], by omega, h3, by simp, fun _ => ⟨g, o, rfl, fun j u hu => ?_⟩⟩
      rw [List.getElem?_take] at hu
      split at hu
      · exact h6 j u hu
      · cases hu
/-- 'v[k:]'. -/
theorem cut_from {w : World} {v : Value} {fl : List Nat} (h : FrS w v fl) (k : Nat) (hk : k ≤ fl.length) (h0 : 0 < k) : ∃ a' c', (∀ W, (Instr.slice 36 v (some (.int .i64 (k : Int))) none none).run Try.prog W = .ok (.slice a' (fl.length - k) c') W) ∧ FrS w (.slice a' (fl.length - k) c') (fl.drop k) ∧ ∀ x, (Value.slice a' (fl.length - k) c').ownBlock = some x → v.ownBlock = some x := by
  have ht' : Try.prog.underlying 36 = some (.slice (Try.prog.elem 36)) := by simp [Program.elem, Try.underlying36]
  have he : Try.prog.elem 36 = 3 := by simp [Program.elem, Try.underlying36]
  obtain ⟨i0, hi, hz0, hz1, hz2⟩ := info_parts inf3
  have hz : ∀ w, (Go.sizeOf 3).run Try.prog w = .ok 1 w := fun w => by simp [Go.sizeOf, typeInfo, hi, hz1]
  rcases h with ⟨rfl, rfl⟩ | ⟨g, o, c, rfl, h2, h3, h4, h5, h6⟩
  · simp at hk; omega
  · have e3 : (⟨g, o, none⟩ : Addr).add k = ⟨g, o + k, none⟩ := by unfold Addr.add; split <;> simp_all
    refine ⟨if c = k then some ⟨g, o, none⟩ else some ⟨g, o + k, none⟩, c - k, fun W => ?_, ?_, fun x hx => ?_⟩
    · rw [run_slice_l W 36 _ _ _ ht' .i64 _ (by omega) (by omega), he, hz]
      by_cases hc : c = k
      · subst hc
        simp [Result.andThen, sliced]
      · simp [Result.andThen, sliced, hc, e3]
    · by_cases hc : c = k
      · subst hc
        rw [if_pos rfl]
        have hd : fl.drop c = [] := List.drop_eq_nil_of_le (by omega)
        refine .inr ⟨g, o, c - c, by rw [List.length_drop], by rw [List.length_drop]; omega, by omega, h4, fun j hj => by omega, fun j u hu => ?_⟩
        rw [hd] at hu
        simp at hu
      · rw [if_neg hc]
        refine .inr ⟨g, o + k, c - k, by rw [List.length_drop], by rw [List.length_drop]; omega, by omega, h4, fun j hj => ?_, fun j u hu => ?_⟩
        · rw [Nat.add_assoc]; exact h5 (k + j) (by omega)
        · rw [List.getElem?_drop] at hu
          rw [Nat.add_assoc]
          exact h6 (k + j) u hu
    · split at hx <;> simpa [Value.ownBlock] using hx
end Go.Proofs.Ytilelklcfgemoaa
