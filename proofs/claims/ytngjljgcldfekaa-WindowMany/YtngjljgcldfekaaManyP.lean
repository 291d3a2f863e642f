/-
  WindowMany, without memory.
-/
import Derived.Test.YtngjljgcldfekaaWr
namespace Go.Proofs.Ytngjljgcldfekaa
open Go.RowKit
set_option linter.unusedVariables false
/-- What is remembered behind n clients of one serial each. -/
def Mk (n : Nat) : List Cl := (List.range' (n - 64) (n - (n - 64))).map fun j => ⟨j, [7]⟩
theorem Mk_length (n : Nat) : (Mk n).length = min n 64 := by
  unfold Mk
  rw [List.length_map, List.length_range']
  omega
theorem Mk_mem {n : Nat} {x : Cl} (h : x ∈ Mk n) : n - 64 ≤ x.c ∧ x.c < n := by
  obtain ⟨j, hj, rfl⟩ := List.mem_map.1 h
  rw [List.mem_range'_1] at hj
  show n - 64 ≤ j ∧ j < n
  omega
theorem srl_map (l : List Nat) (k : Nat) : srl (l.map fun j => (⟨j, [7]⟩ : Cl)) k = if k ∈ l then [7] else [] := by
  induction l with
  | nil => rfl
  | cons x l ih =>
    rw [List.map_cons, srl_cons, ih]
    by_cases h : x = k
    · rw [if_pos h, if_pos (by simp [h])]
    · rw [if_neg h]
      by_cases h2 : k ∈ l
      · rw [if_pos h2, if_pos (by simp [h2])]
      · rw [if_neg h2, if_neg (by simp [h2]; omega)]
theorem srl_Mk (n k : Nat) : srl (Mk n) k = if n - 64 ≤ k ∧ k < n then [7] else [] := by
  unfold Mk
  rw [srl_map]
  by_cases h : n - 64 ≤ k ∧ k < n
  · rw [if_pos h, if_pos (by rw [List.mem_range'_1]; omega)]
  · rw [if_neg h, if_neg (by rw [List.mem_range'_1]; omega)]
theorem nxt_Mk (n : Nat) : nxt (Mk n) n 7 = Mk (n + 1) := by
  have hs : srl (Mk n) n = [] := by rw [srl_Mk, if_neg (by omega)]
  have hno : ∀ y ∈ Mk n, y.c ≠ n := fun y hy => by have := Mk_mem hy; omega
  unfold nxt seenL
  rw [hs, if_neg (by simp)]
  unfold addL
  rw [oth_none hno, hs]
  have e : Mk n ++ [⟨n, cut4 ([] ++ [7])⟩] = (List.range' (n - 64) (n - (n - 64) + 1)).map fun j => (⟨j, [7]⟩ : Cl) := by
    rw [List.range'_1_concat, List.map_append, show n - 64 + (n - (n - 64)) = n by omega]
    rfl
  rw [e]
  unfold cutW
  rw [List.length_map, List.length_range']
  unfold Mk
  by_cases h : 64 ≤ n
  · rw [if_pos (by omega), List.range'_succ, List.map_cons, List.drop_succ_cons, List.drop_zero]
    congr 2 <;> omega
  · rw [if_neg (by omega)]
    congr 2 <;> omega
/-- How many came. -/
def tot (n k : Nat) : Nat := if k = n then n + 1 else n
theorem many_not (n k : Nat) : seenL (Mk n) k 8 = false := by
  unfold seenL
  rw [srl_Mk]
  split <;> simp
theorem many_eq (n k : Nat) : nxt (Mk n) k 8 = addL (Mk n) k 8 := by
  unfold nxt
  rw [many_not n k, if_neg (by simp)]
theorem many_length {n k : Nat} (hg : Good (Mk n)) (hk : k ≤ n) : (nxt (Mk n) k 8).length = min (tot n k) 64 := by
  rw [many_eq n k]
  have hl := Mk_length n
  rcases where_is (Mk n) k with ⟨j, x, h1, h2, h3, h4⟩ | ⟨h1, h2⟩
  · have hj := (List.getElem?_eq_some_iff.1 h1).1
    have := Mk_mem (List.mem_of_getElem? h1)
    rw [addL_some hg h1 h2 h4, List.length_append, List.length_append, List.length_take, List.length_drop, tot, if_neg (by omega)]
    simp
    omega
  · have hnot : ¬ (n - 64 ≤ k ∧ k < n) := fun hh => by
      rw [srl_Mk, if_pos hh] at h2
      simp at h2
    by_cases h64 : (Mk n).length = 64
    · rw [addL_full h1 h2 h64, List.length_append, List.length_drop, h64, tot]
      split <;> simp <;> omega
    · rw [addL_new h1 h2 (by omega), List.length_append, tot, if_pos (by omega)]
      simp
      omega
theorem many_last {n k : Nat} (hg : Good (Mk n)) (hk : k ≤ n) : (clis (nxt (Mk n) k 8))[min (tot n k) 64 - 1]? = some k := by
  have hl := many_length hg hk
  rw [many_eq n k] at hl ⊢
  obtain ⟨X, e, -, -⟩ := addL_form (Mk n) k 8
  rw [e] at hl ⊢
  rw [List.length_append] at hl
  have : min (tot n k) 64 - 1 = X.length := by simp at hl; omega
  rw [this]
  simp [clis]
theorem many_seen (n k : Nat) : seenL (nxt (Mk n) k 8) k 8 = true := by
  rw [many_eq n k]
  unfold seenL
  rw [srl_add_same, srl_Mk]
  split <;> simp [cut4]
theorem many_zero {n k : Nat} (hg : Good (Mk n)) (hk : k ≤ n) (h0 : n ≠ 0) (hk0 : k ≠ 0) (h64 : n ≤ 64) : seenL (nxt (Mk n) k 8) 0 7 = decide (tot n k ≤ 64) := by
  rw [many_eq n k]
  have hl := Mk_length n
  unfold seenL
  by_cases ht : tot n k ≤ 64
  · have ho : (oth (Mk n) k).length < 64 := by
      rcases where_is (Mk n) k with ⟨j, x, h1, h2, h3, h4⟩ | ⟨h1, h2⟩
      · have hj := (List.getElem?_eq_some_iff.1 h1).1
        rw [oth_some hg.nod h1 h2, List.length_append, List.length_take, List.length_drop]
        omega
      · have hnot : ¬ (n - 64 ≤ k ∧ k < n) := fun hh => by
          rw [srl_Mk, if_pos hh] at h2
          simp at h2
        have := oth_length (Mk n) k
        unfold tot at ht
        rw [if_pos (by omega)] at ht
        omega
    rw [srl_add_other 8 (by omega) ho, srl_Mk, if_pos (by omega)]
    simp [ht]
  · have hkn : k = n ∧ n = 64 := by
      unfold tot at ht
      split at ht <;> omega
    obtain ⟨rfl, rfl⟩ := hkn
    have hs : srl (Mk 64) 64 = [] := by rw [srl_Mk, if_neg (by omega)]
    rw [addL_full (fun y hy => by have := Mk_mem hy; omega) hs (by rw [hl]; rfl), srl_none]
    · simp [ht]
    · intro x hx
      rcases List.mem_append.1 hx with hx | hx
      · have : (Mk 64).drop 1 = (List.range' 1 63).map fun j => (⟨j, [7]⟩ : Cl) := rfl
        rw [this] at hx
        obtain ⟨j, hj, rfl⟩ := List.mem_map.1 hx
        rw [List.mem_range'_1] at hj
        show j ≠ 0
        omega
      · simp at hx
        subst hx
        show (64 : Nat) ≠ 0
        omega
end Go.Proofs.Ytngjljgcldfekaa
