/-
  Sum, as the program has it and as the document has it: the sum of any bytes; nothing turns.
-/
import Derived.Test.YtilelklcfgemoaaRows
import Derived.WalkLawsBesides
import Derived.WalkSpells
import Derived.Test.YtilelklcfgemoaaSMem
import Derived.Test.YtilelklcfgemoaaSFnv
import Derived.Laws.BitsAllLaws
namespace Go.Proofs.Ytilelklcfgemoaa
open Go.RowKit
set_option linter.unusedVariables false
theorem mix_run (N U : Nat) (hN : N < 18446744073709551616) (hU : U < 256) : IntKind.u64.wrap ((bits .xor .u64 (N : Int) (U : Int)) * 1099511628211) = ((mix N U : Nat) : Int) := by
  rw [u64_xor_nat N U hN (by omega), IntKind.wrap_u64]
  unfold mix
  omega
set_option maxRecDepth 100000 in
set_option maxHeartbeats 400000 in
theorem sum_walk (b o cap : Nat) (l : List UInt8) (n : Nat) (w : World) (hn : Hid (l.length = n)) (h1 : n ≤ cap) (h2 : cap ≤ 9223372036854775807) (hc : ∀ j u, l[j]? = some u → w.cell? ⟨b, o + j, none⟩ = some (B8 u)) :
    Calls Try.prog 83 #[.slice (some ⟨b, o, none⟩) n cap] w fun e w' => e = .returned (.int .u64 ((fnv l : Nat) : Int)) ∧ w = w' := by
  go_enter Try.func83, Try.ntmps83
  go_wp2
  go_loop [3, 8] (fun x i => ∃ j : Nat, j ≤ n ∧ i = .int .i64 (j : Int) ∧ x = .int .u64 ((fnv (l.take j) : Nat) : Int)) (fun _ i => n - (intOf i).toNat)
  case atStart => exact ⟨0, Nat.zero_le _, rfl, by simp [fnv, fnvFrom]⟩
  case round =>
    obtain ⟨j, hj, rfl, rfl⟩ := hrel
    by_cases hlt : j < n
    · obtain ⟨u, hu⟩ : ∃ u, l[j]? = some u := ⟨l[j]'(by rw [hn.out]; exact hlt), by simp⟩
      have HU : Hid (fnv (l.take (j + 1)) = mix (fnv (l.take j)) u.toNat) := fnv_take l j u hu
      have hN := fnv_lt (l.take j)
      have hcj := hc j u hu
      unfold B8 at hcj
      have hub := u.toNat_lt
      have hm := mix_run (fnv (l.take j)) u.toNat hN hub
      generalize fnv (l.take j) = N at hN hm HU ⊢
      generalize u.toNat = U at hub hm HU hcj
      clear hu hc
      go_wp2
      go_round
      case rel => exact ⟨j + 1, by omega, by go_num, by rw [HU.out]⟩
      case measure => simp [intOf]; omega
    · have hje : j = n := by omega
      subst hje
      have HW : Hid (fnv (l.take j) = fnv l) := by show _ = _; rw [List.take_of_length_le (by rw [hn.out]; omega)]
      generalize fnv (l.take j) = N at HW ⊢
      clear hc
      go_wp2
      go_ret
      exact ⟨by rw [← HW.out]; rfl, rfl⟩
theorem reads_cases {w : World} {v : Value} {l : List UInt8} (h : Reads w v l) : (∃ a cap, v = .slice a 0 cap ∧ l = [] ∧ cap ≤ 9223372036854775807) ∨ (∃ b o cap, v = .slice (some ⟨b, o, none⟩) l.length cap ∧ l.length ≤ cap ∧ cap ≤ 9223372036854775807 ∧ ∀ j u, l[j]? = some u → w.cell? ⟨b, o + j, none⟩ = some (B8 u)) := by
  obtain ⟨a, cap, rfl, h2, h3, h4, h5⟩ := h
  have h3' : cap ≤ 9223372036854775807 := by unfold maxLen at h3; omega
  by_cases hl : l = []
  · subst hl
    exact .inl ⟨a, cap, rfl, rfl, h3'⟩
  · obtain ⟨b, o, rfl, hc⟩ := h5 hl
    exact .inr ⟨b, o, cap, rfl, h2, h3', hc⟩
set_option maxRecDepth 100000 in
set_option maxHeartbeats 400000 in
theorem sum_nil (a : Option Addr) (cap : Nat) (w : World) : Calls Try.prog 83 #[.slice a 0 cap] w fun e w' => e = .returned (.int .u64 14695981039346656037) ∧ w = w' := by
  go_enter Try.func83, Try.ntmps83
  go_wp2
  go_loop [3, 8] (fun x i => i = .int .i64 0 ∧ x = .int .u64 14695981039346656037) (fun _ _ => 0)
  case atStart => exact ⟨rfl, rfl⟩
  case round =>
    obtain ⟨rfl, rfl⟩ := hrel
    go_wp2
    go_ret
    exact ⟨rfl, rfl⟩
theorem fnv_nil : ((fnv [] : Nat) : Int) = 14695981039346656037 := by simp [fnv, fnvFrom]
/-- Sum: the document's sum; nothing turns. -/
theorem sum_any (v : Value) (l : List UInt8) (w : World) (h : Reads w v l) : Calls Try.prog 83 #[v] w fun e w' => e = .returned (.int .u64 ((fnv l : Nat) : Int)) ∧ w = w' := by
  rcases reads_cases h with ⟨a, cap, rfl, rfl, _⟩ | ⟨b, o, cap, rfl, h1, h2, hc⟩
  · rw [fnv_nil]
    exact sum_nil a cap w
  · exact sum_walk b o cap l l.length w rfl h1 h2 hc
end Go.Proofs.Ytilelklcfgemoaa
