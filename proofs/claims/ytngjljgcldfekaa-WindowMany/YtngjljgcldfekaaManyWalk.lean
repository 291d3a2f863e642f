/-
  WindowMany: the walk.
-/
import Derived.Test.YtngjljgcldfekaaManyP
import Derived.Lib.MinMax
namespace Go.Proofs.Ytngjljgcldfekaa
open Go.RowKit
set_option linter.unusedVariables false
section
variable {w : World}
set_option maxRecDepth 100000 in
set_option maxHeartbeats 1000000 in
theorem many_walk (n ag : Nat) (hn : n < 256) (hag : ag < 256) : Calls Try.prog 5 #[.int .u8 (n : Int), .int .u8 (ag : Int)] w fun e w' => e = .returned (.bool true) ∧ Kept [] w w' := by
  go_enter Try.func5, Try.ntmps5
  go_wp2_with fail
  refine awake9.mono ?_
  rintro e w1 ⟨rfl, k1⟩
  go_wp2_with fail
  refine (win_new k1).mono ?_
  rintro e w2 ⟨rfl, h2, -⟩
  generalize w1.heap.size = p at h2 ⊢
  go_wp2_with fail
  go_loopw [15] (fun i wr => ∃ j : Nat, i = .int .i64 (j : Int) ∧ j ≤ n ∧ Hid (Win w wr p (Mk j))) (fun i _ => n - (intOf i).toNat)
  case atStart => exact ⟨0, rfl, by omega, Hid.mk h2⟩
  case round =>
    clear h2
    obtain ⟨j, rfl, hj, hH⟩ := hrel
    by_cases hlt : j < n
    · have hjI : (j : Int) < (n : Int) := by omega
      have hA := win_add hH.out (c := j) (s := 7) (by unfold U64; omega) (by unfold U64; omega)
      rw [nxt_Mk] at hA
      have HA := Hid.mk hA
      clear hA
      go_wp2_with fail
      refine HA.out.mono ?_
      rintro e w3 ⟨rfl, h3, -⟩
      have H3 := Hid.mk h3
      generalize (!seenL (Mk j) j 7) = D
      clear h3
      go_wp2_with fail
      go_roundw
      case rel => exact ⟨j + 1, by go_num, by omega, H3⟩
      case measure => simp [intOf]; omega
    · obtain rfl : j = n := by omega
      obtain ⟨k, hk⟩ : ∃ k, k = ag % (j + 1) := ⟨_, rfl⟩
      have hkle : k ≤ j := by rw [hk]; exact Nat.le_of_lt_succ (Nat.mod_lt ag (Nat.succ_pos j))
      have hkI : (ag : Int) % ((j : Int) + 1) = (k : Int) := by rw [hk]; simp
      have HG := Hid.mk hH.out.good
      have hA := win_add hH.out (c := k) (s := 8) (by unfold U64; omega) (by unfold U64; omega)
      have HA := Hid.mk hA
      have hlast0 := many_last HG.out hkle
      clear hA hk
      go_wp2_with fail
      refine HA.out.mono ?_
      rintro e w3 ⟨rfl, h3, -⟩
      generalize (!seenL (Mk j) k 8) = D
      by_cases hkj : k = j
      · have gkj : ((k : Int) == (j : Int)) = true := by simp [hkj]
        have HT : Hid (tot j k = j + 1) := by show _ = _; unfold tot; rw [if_pos hkj]
        obtain ⟨N, hN0⟩ : ∃ N : Nat, N = min (j + 1) 64 := ⟨_, rfl⟩
        have HNN := Hid.mk hN0
        have hmin : min (max ((j : Int) + 1) 1) 64 = (N : Int) := by omega
        have ht0 : ((j : Int) + 1 == 0) = false := by simp; omega
        have hlast : Hid ((clis (nxt (Mk j) k 8))[N - 1]? = some k) := by rw [HT.out, ← hN0] at hlast0; exact hlast0
        clear hN0 hkj hlast0
        have HC := Hid.mk (win_clients h3)
        clear h3
        go_wp2_with fail
        refine HC.out.mono ?_
        rintro e w4 ⟨v, rfl, hO, -, h4, -⟩
        obtain ⟨av, cv, rfl, hv1, hv2⟩ := hO.form
        have hN : (clis (nxt (Mk j) k 8)).length = N := by rw [clis, List.length_map, many_length HG.out hkle, HT.out]; exact HNN.out.symm
        rw [hN] at *
        obtain ⟨b, o, rfl, d0⟩ := hO.reads.at hlast.out
        have HS1 := win_seen h4 k 8
        rw [many_seen] at HS1
        have HS1 := Hid.mk HS1
        have HZ : Hid (j ≠ 0 → k ≠ 0 → j ≤ 64 → ∀ W, Win w W p (nxt (Mk j) k 8) → Calls Try.prog 14 #[.pointer (some ⟨p, 0, none⟩), Uv 0, Uv 7] W fun e w' => e = .returned (.bool (decide ((j : Int) + 1 ≤ 64))) ∧ Win w w' p (nxt (Mk j) k 8) ∧ Kept [] W w') := fun a1 a2 a3 W hW => by
          have := win_seen hW 0 7
          rw [many_zero HG.out hkle a1 a2 a3, HT.out] at this
          rwa [show decide (j + 1 ≤ 64) = decide ((j : Int) + 1 ≤ 64) from decide_eq_decide.2 (by omega)] at this
        have hn1 : (1 : Int) ≤ (N : Int) := by have := HNN.out; omega
        have hlt1 : (N : Int) - 1 < (N : Int) := by omega
        have hge1 : (0 : Int) ≤ (N : Int) - 1 := by omega
        have hidx : ((N : Int) - 1).toNat = N - 1 := by omega
        have hnn : ((N : Int) != (N : Int)) = false := by simp
        have hkk : ((k : Int) == (k : Int)) = true := by simp
        obtain ⟨m, hm⟩ : ∃ m : Nat, m = N - 1 := ⟨_, rfl⟩
        have hmI : (N : Int) - 1 = (m : Int) := by omega
        have hmN : (m : Int) < (N : Int) := by omega
        have hm0 : (0 : Int) ≤ (m : Int) := by omega
        rw [← hm] at d0
        clear hO h4 hN hm hidx hge1 hlt1
        by_cases q0 : j = 0
        · have z0 : ((j : Int) == 0) = true := by simp [q0]
          clear q0
          go_wp2_with fail
          refine HS1.out.mono ?_
          rintro e w5 ⟨rfl, h5, -⟩
          go_wp2_with fail
          go_ret
          exact ⟨rfl, h5.kept⟩
        · have z0 : ((j : Int) == 0) = false := by simp; omega
          by_cases q1 : k = 0
          · have z1 : ((k : Int) == 0) = true := by simp [q1]
            clear q1
            go_wp2_with fail
            refine HS1.out.mono ?_
            rintro e w5 ⟨rfl, h5, -⟩
            go_wp2_with fail
            go_ret
            exact ⟨rfl, h5.kept⟩
          · have z1 : ((k : Int) == 0) = false := by simp; omega
            by_cases q2 : 64 < j
            · have z2 : (64 : Int) < (j : Int) := by omega
              go_wp2_with fail
              refine HS1.out.mono ?_
              rintro e w5 ⟨rfl, h5, -⟩
              go_wp2_with fail
              go_ret
              exact ⟨rfl, h5.kept⟩
            · have z2 : ((64 : Int) < (j : Int)) = False := eq_false (by omega)
              go_wp2_with fail
              refine HS1.out.mono ?_
              rintro e w5 ⟨rfl, h5, -⟩
              go_wp2_with fail
              refine (HZ.out q0 q1 (by omega) _ h5).mono ?_
              rintro e w6 ⟨rfl, h6, -⟩
              have hdd : ∀ b : Bool, (b == b) = true := by decide
              have hd := hdd (decide ((j : Int) + 1 ≤ 64))
              go_wp2_with fail
              go_ret
              exact ⟨rfl, h6.kept⟩
      · have gkj : ((k : Int) == (j : Int)) = false := by simp; omega
        have HT : Hid (tot j k = j) := by show _ = _; unfold tot; rw [if_neg hkj]
        have hj1 : 1 ≤ j := by omega
        obtain ⟨N, hN0⟩ : ∃ N : Nat, N = min j 64 := ⟨_, rfl⟩
        have HNN := Hid.mk hN0
        have hmin : min (max (j : Int) 1) 64 = (N : Int) := by omega
        have ht0 : ((j : Int) == 0) = false := by simp; omega
        have hlast : Hid ((clis (nxt (Mk j) k 8))[N - 1]? = some k) := by rw [HT.out, ← hN0] at hlast0; exact hlast0
        clear hN0 hkj hlast0
        have HC := Hid.mk (win_clients h3)
        clear h3
        go_wp2_with fail
        refine HC.out.mono ?_
        rintro e w4 ⟨v, rfl, hO, -, h4, -⟩
        obtain ⟨av, cv, rfl, hv1, hv2⟩ := hO.form
        have hN : (clis (nxt (Mk j) k 8)).length = N := by rw [clis, List.length_map, many_length HG.out hkle, HT.out]; exact HNN.out.symm
        rw [hN] at *
        obtain ⟨b, o, rfl, d0⟩ := hO.reads.at hlast.out
        have HS1 := win_seen h4 k 8
        rw [many_seen] at HS1
        have HS1 := Hid.mk HS1
        have HZ : Hid (j ≠ 0 → k ≠ 0 → j ≤ 64 → ∀ W, Win w W p (nxt (Mk j) k 8) → Calls Try.prog 14 #[.pointer (some ⟨p, 0, none⟩), Uv 0, Uv 7] W fun e w' => e = .returned (.bool (decide ((j : Int) ≤ 64))) ∧ Win w w' p (nxt (Mk j) k 8) ∧ Kept [] W w') := fun a1 a2 a3 W hW => by
          have := win_seen hW 0 7
          rw [many_zero HG.out hkle a1 a2 a3, HT.out] at this
          rwa [show decide (j ≤ 64) = decide ((j : Int) ≤ 64) from decide_eq_decide.2 (by omega)] at this
        have hn1 : (1 : Int) ≤ (N : Int) := by have := HNN.out; omega
        have hlt1 : (N : Int) - 1 < (N : Int) := by omega
        have hge1 : (0 : Int) ≤ (N : Int) - 1 := by omega
        have hidx : ((N : Int) - 1).toNat = N - 1 := by omega
        have hnn : ((N : Int) != (N : Int)) = false := by simp
        have hkk : ((k : Int) == (k : Int)) = true := by simp
        obtain ⟨m, hm⟩ : ∃ m : Nat, m = N - 1 := ⟨_, rfl⟩
        have hmI : (N : Int) - 1 = (m : Int) := by omega
        have hmN : (m : Int) < (N : Int) := by omega
        have hm0 : (0 : Int) ≤ (m : Int) := by omega
        rw [← hm] at d0
        clear hO h4 hN hm hidx hge1 hlt1
        by_cases q0 : j = 0
        · exact absurd q0 (by omega)
        · have z0 : ((j : Int) == 0) = false := by simp; omega
          by_cases q1 : k = 0
          · have z1 : ((k : Int) == 0) = true := by simp [q1]
            clear q1
            go_wp2_with fail
            refine HS1.out.mono ?_
            rintro e w5 ⟨rfl, h5, -⟩
            go_wp2_with fail
            go_ret
            exact ⟨rfl, h5.kept⟩
          · have z1 : ((k : Int) == 0) = false := by simp; omega
            by_cases q2 : 64 < j
            · have z2 : (64 : Int) < (j : Int) := by omega
              go_wp2_with fail
              refine HS1.out.mono ?_
              rintro e w5 ⟨rfl, h5, -⟩
              go_wp2_with fail
              go_ret
              exact ⟨rfl, h5.kept⟩
            · have z2 : ((64 : Int) < (j : Int)) = False := eq_false (by omega)
              go_wp2_with fail
              refine HS1.out.mono ?_
              rintro e w5 ⟨rfl, h5, -⟩
              go_wp2_with fail
              refine (HZ.out q0 q1 (by omega) _ h5).mono ?_
              rintro e w6 ⟨rfl, h6, -⟩
              have hdd : ∀ b : Bool, (b == b) = true := by decide
              have hd := hdd (decide ((j : Int) ≤ 64))
              go_wp2_with fail
              go_ret
              exact ⟨rfl, h6.kept⟩
end
end Go.Proofs.Ytngjljgcldfekaa
