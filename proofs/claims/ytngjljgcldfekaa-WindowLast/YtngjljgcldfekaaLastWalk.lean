/-
  WindowLast: the walk.
-/
import Derived.Test.YtngjljgcldfekaaWl
import Derived.Lib.MinMax
namespace Go.Proofs.Ytngjljgcldfekaa
open Go.RowKit
set_option linter.unusedVariables false
/-- The last four numbers below n. -/
def lastS (n : Nat) : List Nat := List.range' (n - 4) (n - (n - 4))
theorem lastS_mem (n k : Nat) : k ∈ lastS n ↔ n - 4 ≤ k ∧ k < n := by
  unfold lastS
  rw [List.mem_range'_1]
  omega
theorem lastS_length (n : Nat) : (lastS n).length = min n 4 := by
  unfold lastS
  rw [List.length_range']
  omega
theorem lastS_next (n : Nat) : cut4 (lastS n ++ [n]) = lastS (n + 1) := by
  have e : lastS n ++ [n] = List.range' (n - 4) (n - (n - 4) + 1) := by
    unfold lastS
    rw [List.range'_1_concat]
    congr 2
    omega
  unfold cut4
  rw [e, List.length_range']
  unfold lastS
  by_cases h : 4 ≤ n
  · rw [if_pos (by omega), List.range'_succ, List.drop_succ_cons, List.drop_zero]
    congr 1 <;> omega
  · rw [if_neg (by omega)]
    congr 1 <;> omega
/-- What is remembered behind n serials of one client. -/
def Lk (c n : Nat) : List Cl := if n = 0 then [] else [⟨c, lastS n⟩]
theorem srl_Lk (c n : Nat) : srl (Lk c n) c = lastS n := by
  unfold Lk
  by_cases h : n = 0
  · rw [if_pos h, h]; rfl
  · rw [if_neg h, srl_cons, if_pos rfl]
theorem seen_Lk (c n k : Nat) : seenL (Lk c n) c k = decide (n - 4 ≤ k ∧ k < n) := by
  unfold seenL
  rw [srl_Lk]
  simp only [lastS_mem]
theorem nxt_Lk (c n : Nat) : nxt (Lk c n) c n = Lk c (n + 1) := by
  unfold nxt
  rw [if_neg (by rw [seen_Lk]; simp)]
  unfold addL
  rw [srl_Lk, lastS_next]
  have : oth (Lk c n) c = [] := by
    unfold Lk
    split
    · rfl
    · simp [oth]
  rw [this, Lk, if_neg (by omega)]
  rfl
theorem other_Lk (c c' n k : Nat) (h : c ≠ c') : seenL (Lk c n) c' k = false := by
  unfold seenL Lk
  split
  · simp [srl]
  · rw [srl_cons, if_neg h]; simp [srl]
section
variable {w : World}
set_option maxRecDepth 100000 in
set_option maxHeartbeats 1000000 in
theorem last_walk (n c : Nat) (hn : n < 256) (hc : U64 c) : Calls Try.prog 6 #[.int .u8 (n : Int), Uv c] w fun e w' => e = .returned (.bool true) ∧ Kept [] w w' := by
  have HC := Hid.mk hc
  obtain ⟨c', hc'⟩ : ∃ c' : Nat, ((c : Int) + 1) % 18446744073709551616 = (c' : Int) := ⟨(c + 1) % 18446744073709551616, by omega⟩
  have hne : c ≠ c' := by unfold U64 at hc; omega
  have hcw : IntKind.u64.wrap ((c : Int) + 1) = (c' : Int) := by rw [← hc']; rfl
  have HNE := Hid.mk hne
  clear hc hne
  go_enter Try.func6, Try.ntmps6
  go_wp2_with fail
  refine awake9.mono ?_
  rintro e w1 ⟨rfl, k1⟩
  go_wp2_with fail
  refine (win_new k1).mono ?_
  rintro e w2 ⟨rfl, h2, -⟩
  generalize w1.heap.size = p at h2 ⊢
  go_wp2_with fail
  go_loopw [13] (fun i wr => ∃ j : Nat, i = .int .i64 (j : Int) ∧ j ≤ n ∧ Hid (Win w wr p (Lk c j))) (fun i _ => n - (intOf i).toNat)
  case atStart => exact ⟨0, rfl, by omega, Hid.mk h2⟩
  case round =>
    obtain ⟨j, rfl, hj, hH⟩ := hrel
    by_cases hlt : j < n
    · have hjI : (j : Int) < (n : Int) := by omega
      have hA := win_add hH.out (c := c) (s := j) HC.out (by unfold U64; omega)
      have es : seenL (Lk c j) c j = false := by rw [seen_Lk]; simp
      rw [es, nxt_Lk] at hA
      have HA := Hid.mk hA
      clear hA es
      go_wp2_with fail
      refine HA.out.mono ?_
      rintro e w3 ⟨rfl, h3, -⟩
      have H3 := Hid.mk h3
      clear h3
      go_wp2_with fail
      go_roundw
      case rel => exact ⟨j + 1, by go_num, by omega, H3⟩
      case measure => simp [intOf]; omega
    · obtain rfl : j = n := by omega
      go_wp2_with fail
      go_loopw [25] (fun i wr => ∃ k : Nat, i = .int .i64 (k : Int) ∧ k ≤ j ∧ Hid (Win w wr p (Lk c j))) (fun i _ => j - (intOf i).toNat)
      case atStart => exact ⟨0, rfl, by omega, hH⟩
      case round =>
        clear hH hlt
        obtain ⟨k, rfl, hk, hH⟩ := hrel
        by_cases hlt : k < j
        · have hkI : (k : Int) < (j : Int) := by omega
          have hS := win_seen hH.out c k
          have es : seenL (Lk c j) c k = decide ((j : Int) - 4 ≤ (k : Int)) := by rw [seen_Lk]; apply decide_eq_decide.2; omega
          rw [es] at hS
          have HS := Hid.mk hS
          clear hS es hH
          go_wp2_with fail
          refine HS.out.mono ?_
          rintro e w3 ⟨rfl, h3, -⟩
          have H3 := Hid.mk h3
          clear h3
          go_wp2_with fail
          go_roundw
          case rel => exact ⟨k + 1, by go_num, by omega, H3⟩
          case measure => simp [intOf]; omega
        · obtain rfl : k = j := by omega
          have HS := Hid.mk (win_serials hH.out c)
          clear hH
          go_wp2_with fail
          refine HS.out.mono ?_
          rintro e w3 ⟨v, rfl, hO, -, h3, -⟩
          rw [srl_Lk] at hO
          obtain ⟨av, cv, rfl, hv1, hv2⟩ := hO.form
          rw [lastS_length] at *
          have hm : ((min k 4 : Nat) : Int) = min (k : Int) 4 := by omega
          have hmm : (((min k 4 : Nat) : Int) == min (k : Int) 4) = true := by simp [hm]
          have hE := win_seen h3 c' 0
          rw [other_Lk c c' k 0 HNE.out] at hE
          have HE := Hid.mk hE
          clear hE h3 hO hm
          generalize ((min k 4 : Nat) : Int) = M1 at *
          go_wp2_with fail
          refine HE.out.mono ?_
          rintro e w4 ⟨rfl, h4, -⟩
          go_wp2_with fail
          go_ret
          exact ⟨rfl, h4.kept⟩
end
end Go.Proofs.Ytngjljgcldfekaa
