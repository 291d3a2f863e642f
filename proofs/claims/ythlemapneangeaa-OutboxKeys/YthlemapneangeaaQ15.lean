import Derived.Test.YthlemapneangeaaQ13
/-
  OutboxKeys: the walk.
-/
namespace Go.Proofs.Ythlemapneangeaa
set_option maxRecDepth 100000
open Go.RowKit
set_option linter.unusedVariables false
/-- The key that is the i-th. -/
def keyI (i : Nat) : List UInt8 := [107, UInt8.ofNat i]
theorem keyI_ne {i j : Nat} (hi : i < 80) (hj : j < 80) (h : i ≠ j) : keyI i ≠ keyI j := fun e => by
  simp [keyI] at e
  have := congrArg UInt8.toNat e
  simp at this
  omega
/-- What the outbox has after j rounds. -/
structure AtJ (o : Ob) (j : Nat) : Prop where
  ln : o.L.length ≤ 1
  kn : o.K.length = min j 64
  has : ∀ i, i < 80 → hasK o.K (keyI i) = decide (i < min j 64)
  ser : ∀ i, i < min j 64 → ser o.K (keyI i) = 1
theorem AtJ.new (own : List UInt8) : AtJ ⟨own, [], []⟩ 0 := ⟨by simp, by simp, fun i hi => by simp [hasK], fun i hi => by simp at hi⟩
theorem AtJ.pop {o : Ob} {j : Nat} (h : AtJ o j) : AtJ (popO o) j ∧ (popO o).L.length = 0 := by
  have := h.ln
  have e : (popO o).L.length = 0 := by simp [popO]; omega
  exact ⟨⟨by omega, h.kn, h.has, h.ser⟩, e⟩
theorem AtJ.full {o : Ob} {j : Nat} (h : AtJ o j) (h0 : o.L.length = 0) (hj : j < 80) : fullO o (keyI j) ↔ 64 ≤ j := by
  unfold fullO
  rw [h.has j hj, h.kn, h0]
  simp
  omega
theorem AtJ.stay {o : Ob} {j : Nat} (h : AtJ o j) (hj : 64 ≤ j) : AtJ o (j + 1) := by
  have e : min (j + 1) 64 = min j 64 := by omega
  exact ⟨h.ln, by rw [e]; exact h.kn, by rw [e]; exact h.has, by rw [e]; exact h.ser⟩
theorem AtJ.send {o : Ob} {j : Nat} (h : AtJ o j) (hr : Rise o.K) (h0 : o.L.length = 0) (hj : j < 64) : AtJ (sendO o (keyI j) 0 []) (j + 1) ∧ Go.Proofs.Ythlemapneangeaa.ser o.K (keyI j) + 1 = 1 := by
  have hh : hasK o.K (keyI j) = false := by rw [h.has j (by omega)]; simp; omega
  have hs := (has_not hh).1
  refine ⟨⟨by show (_ ++ [_]).length ≤ 1; rw [List.length_append, h0]; simp, ?_, fun i hi => ?_, fun i hi => ?_⟩, by omega⟩
  · show (setK o.K (keyI j) _).length = _
    rw [setK_length, hh]
    have := h.kn
    simp
    omega
  · show hasK (setK o.K (keyI j) _) (keyI i) = _
    by_cases e : i = j
    · subst e
      rw [(ser_set_same _ _ _).2]
      simp
      omega
    · rw [(ser_set_other _ hr (keyI_ne hi (by omega) e)).2, h.has i hi]
      simp
      omega
  · show Go.Proofs.Ythlemapneangeaa.ser (setK o.K (keyI j) _) (keyI i) = _
    by_cases e : i = j
    · subst e
      rw [(ser_set_same _ _ _).1]
      omega
    · rw [(ser_set_other _ hr (keyI_ne (by omega) (by omega) e)).1]
      exact h.ser i (by omega)
section
variable {w : World}
set_option maxHeartbeats 2000000 in
theorem keys_walk (n : Nat) (hn : n < 256) : Calls Try.prog 7 #[.int .u8 (n : Int)] w fun e w' => e = .returned (.bool true) ∧ Kept [] w w' := by
  go_enter Try.func7, Try.ntmps7
  go_wp2_with fail
  refine awake9.mono ?_
  rintro e w1 ⟨rfl, k1⟩
  go_wp2_with fail
  refine (one_new (w0 := w) [109, 101] rfl k1.size).mono ?_
  rintro e w2 ⟨p, rfl, T2, k2⟩
  have k02 := k1.trans k2 (by simp)
  have HT2 := Hid.mk T2
  have HK2 := Hid.mk k02
  clear T2 k02 k1 k2
  go_wp2_with fail
  obtain ⟨N, hN, hN80⟩ : ∃ N : Nat, ((n : Int) % 80) = (N : Int) ∧ N < 80 := ⟨n % 80, by omega, by omega⟩
  rw [hN]
  go_loopw [19] (fun i wr => ∃ j : Nat, i = .int .i64 (j : Int) ∧ j ≤ N ∧ Hid (∃ o, One w wr p o j ∧ AtJ o j) ∧ Hid (Kept [] w wr)) (fun i _ => N - (intOf i).toNat)
  case atStart => exact ⟨0, rfl, by omega, Hid.mk ⟨_, HT2.out, AtJ.new _⟩, HK2⟩
  case round =>
    obtain ⟨j, rfl, hj, ht, kk⟩ := hrel
    obtain ⟨o, T, A⟩ := ht.out
    by_cases hlt : j < N
    · have hjI : (j : Int) < (N : Int) := by omega
      go_wp2_with fail
      refine (one_pop T).mono ?_
      rintro e w3 ⟨to, x, bo, a, c, rfl, T3, k3⟩
      obtain ⟨A3, h0⟩ := A.pop
      have hs := str2 w3 107 (UInt8.ofNat j)
      have hu : ((UInt8.ofNat j).toNat : Int) = (j : Int) := by simp; omega
      rw [hu] at hs
      obtain ⟨W4, e4, k4, -, -⟩ := box1 w3 (.cells #[.int .u8 107, .int .u8 (j : Int)] 5)
      have hs : (convert 34 9 (.slice (some ⟨w3.heap.size, 0, none⟩) 2 2)).run Try.prog W4 = .ok (Sv (keyI j)) W4 := by rw [← e4]; exact hs
      have T4 := Hid.mk (T3.kept0 k4)
      have K4 : Hid (Kept [] w W4) := (kk.out.trans k3 (fun x hx => .inr (by simp at hx; subst hx; exact T.hp))).trans k4 (by simp)
      have HA := Hid.mk A3
      clear T T3 A A3 ht kk k3 k4 hu
      go_wp2_with fail
      refine (one_send T4.out (keyI j) rfl (by omega)).mono ?_
      rintro e w5 (⟨hfu, rfl, T5, k5⟩ | ⟨hfu, rfl, T5, k5⟩)
      · have h64 : 64 ≤ j := (HA.out.full h0 (by omega)).1 hfu
        have h64I : ((j : Int) < 64) = False := eq_false (by omega)
        have HR : Hid (∃ o, One w w5 p o (j + 1) ∧ AtJ o (j + 1)) := ⟨_, T5.mono (by omega), HA.out.stay h64⟩
        have HK5 : Hid (Kept [] w w5) := K4.out.trans k5 (fun x hx => .inr (by simp at hx; subst hx; exact T4.out.hp))
        clear T4 K4 HA T5 k5 hfu hs e4 h0
        go_wp2_with fail
        go_roundw
        case rel => exact ⟨j + 1, by go_num, by omega, HR, HK5⟩
        case measure => simp [intOf]; omega
      · have h64 : j < 64 := by
          rcases Nat.lt_or_ge j 64 with h | h
          · exact h
          · exact absurd ((HA.out.full h0 (by omega)).2 h) hfu
        have h64I : (j : Int) < 64 := by omega
        obtain ⟨A6, e6⟩ := HA.out.send T4.out.good.rise h0 h64
        rw [e6]
        have HR : Hid (∃ o, One w w5 p o (j + 1) ∧ AtJ o (j + 1)) := ⟨_, T5, A6⟩
        have HK5 : Hid (Kept [] w w5) := K4.out.trans k5 (fun x hx => .inr (by simp at hx; subst hx; exact T4.out.hp))
        clear T4 K4 HA T5 k5 hfu hs e4 h0 A6 e6
        go_wp2_with fail
        go_roundw
        case rel => exact ⟨j + 1, by go_num, by omega, HR, HK5⟩
        case measure => simp [intOf]; omega
    · obtain rfl : j = N := by omega
      by_cases hz : j = 0
      · have hz0 : ((j : Int) == 0) = true := by simp; omega
        go_wp2_with fail
        go_ret
        exact ⟨rfl, kk.out⟩
      · have hz0 : ((j : Int) == 0) = false := by simp; omega
        go_wp2_with fail
        refine (one_pop T).mono ?_
        rintro e w3 ⟨to, x, bo, a, c, rfl, T3, k3⟩
        obtain ⟨A3, h0⟩ := A.pop
        have hs := str2 w3 107 0
        obtain ⟨W4, e4, k4, -, -⟩ := box1 w3 (.cells #[.int .u8 107, .int .u8 0] 5)
        have hs : (convert 34 9 (.slice (some ⟨w3.heap.size, 0, none⟩) 2 2)).run Try.prog W4 = .ok (Sv (keyI 0)) W4 := by rw [← e4]; exact hs
        have T4 := Hid.mk (T3.kept0 k4)
        have K4 : Hid (Kept [] w W4) := (kk.out.trans k3 (fun x hx => .inr (by simp at hx; subst hx; exact T.hp))).trans k4 (by simp)
        have HA := Hid.mk A3
        clear T T3 A A3 ht kk k3 k4
        go_wp2_with fail
        refine (one_send T4.out (keyI 0) rfl (by omega)).mono ?_
        have h1 := HA.out.has 0 (by omega)
        have h2 := HA.out.ser 0 (by omega)
        rintro e w5 (⟨hfu, rfl, T5, k5⟩ | ⟨hfu, rfl, T5, k5⟩)
        · exfalso
          unfold fullO at hfu
          rw [h1, h0] at hfu
          simp at hfu
          omega
        · rw [h2]
          go_wp2_with fail
          go_ret
          exact ⟨rfl, K4.out.trans k5 (fun x hx => .inr (by simp at hx; subst hx; exact T4.out.hp))⟩

end
end Go.Proofs.Ythlemapneangeaa
