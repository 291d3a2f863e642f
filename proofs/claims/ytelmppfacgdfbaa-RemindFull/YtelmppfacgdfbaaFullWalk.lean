/-
  RemindFull: the walk.
-/
import Derived.Test.YtelmppfacgdfbaaOn
namespace Go.Proofs.Ytelmppfacgdfbaa
set_option maxRecDepth 100000
open Go.RowKit Go.Shelf
set_option linter.unusedVariables false
theorem hasR_set (Q : List Rm) (r : Rm) (ac nm : List UInt8) : hasR (setR Q r) ac nm = ((decide (r.ac = ac) && decide (r.nm = nm)) || hasR Q ac nm) := by
  rw [Bool.eq_iff_iff]
  simp only [hasR_iff, Bool.or_eq_true, Bool.and_eq_true, decide_eq_true_eq]
  constructor
  · rintro ⟨x, hx, h1, h2⟩
    rcases layR_mem.1 hx with rfl | hx
    · exact .inl ⟨h1, h2⟩
    · exact .inr ⟨x, (canR_mem.1 hx).1, h1, h2⟩
  · rintro (⟨h1, h2⟩ | ⟨x, hx, h1, h2⟩)
    · exact ⟨r, layR_mem.2 (.inl rfl), h1, h2⟩
    · by_cases e : x.ac = r.ac ∧ x.nm = r.nm
      · exact ⟨r, layR_mem.2 (.inl rfl), by rw [← e.1]; exact h1, by rw [← e.2]; exact h2⟩
      · exact ⟨x, layR_mem.2 (.inr (canR_mem.2 ⟨hx, e⟩)), h1, h2⟩
theorem setR_length {Q : List Rm} (h : GoodQ Q) (r : Rm) : (setR Q r).length = if hasR Q r.ac r.nm = true then Q.length else Q.length + 1 := by
  rw [setR, layR_length]
  split
  · rename_i hh
    exact canR_length h.one hh
  · rename_i hh
    rw [canR_none (by simpa using hh)]
theorem hasR_can (Q : List Rm) (a b ac nm : List UInt8) (h : hasR Q ac nm = false) : hasR (canR Q a b) ac nm = false := by
  cases hh : hasR (canR Q a b) ac nm with
  | false => rfl
  | true =>
    obtain ⟨x, hx, e⟩ := hasR_iff.1 hh
    rw [hasR_iff.2 ⟨x, (canR_mem.1 hx).1, e⟩] at h
    cases h
/-- The reminder that is the i-th. -/
def remI (i : Nat) : Rm := ⟨[97], [UInt8.ofNat i], (i : Int), 1, 0⟩
theorem remI_ne {i j : Nat} (hi : i < 256) (hj : j < 256) (h : i ≠ j) : ¬ ([UInt8.ofNat i] = [UInt8.ofNat j]) := fun e => by
  simp at e
  have := congrArg UInt8.toNat e
  simp at this
  omega
/-- What the queue has after j rounds. -/
structure AtJ (Q : List Rm) (j : Nat) : Prop where
  len : Q.length = min j 64
  has : ∀ i, i < 80 → hasR Q [97] [UInt8.ofNat i] = decide (i < min j 64)
  nob : ∀ nm, hasR Q [98] nm = false
theorem AtJ.new : AtJ [] 0 := ⟨by simp, fun i hi => by simp [hasR], fun nm => by simp [hasR]⟩
theorem errI (i : Nat) : errR (remI i) = 0 := by
  rw [errR, if_neg (by simp [isKey, remI]), if_neg (by simp [remI])]
theorem AtJ.step {Q : List Rm} {j : Nat} (h : AtJ Q j) (hg : GoodQ Q) (hj : j < 80) : AtJ (setQ Q (remI j)) (j + 1) ∧ setA Q (remI j) = if j < 64 then 0 else 6 := by
  have hh : hasR Q [97] [UInt8.ofNat j] = false := by rw [h.has j hj]; simp; omega
  have hl := h.len
  by_cases h64 : j < 64
  · have ha : setA Q (remI j) = 0 := by
      rw [setA, if_neg (by simp [errI]), if_neg (fun e => by have := e.2; omega)]
    rw [if_pos h64]
    refine ⟨?_, ha⟩
    rw [setQ, if_pos ha]
    refine ⟨?_, fun i hi => ?_, fun nm => ?_⟩
    · rw [setR_length hg]
      have : hasR Q (remI j).ac (remI j).nm = false := hh
      rw [this, if_neg (by decide)]
      omega
    · rw [hasR_set, h.has i hi]
      by_cases e : i = j
      · subst e
        simp [remI]
        omega
      · have hne : ¬ (remI j).nm = [UInt8.ofNat i] := remI_ne (by omega) (by omega) (fun e' => e e'.symm)
        rw [decide_eq_false hne]
        simp
        omega
    · rw [hasR_set, h.nob nm]
      simp [remI]
  · have ha : setA Q (remI j) = 6 := by
      rw [setA, if_neg (by simp [errI]), if_pos ⟨hh, by omega⟩]
    rw [if_neg h64]
    refine ⟨?_, ha⟩
    have em : min (j + 1) 64 = min j 64 := by omega
    rw [setQ, ha, if_neg (by decide)]
    exact ⟨by rw [em]; exact hl, by rw [em]; exact h.has, h.nob⟩
/-- What comes behind: one is set anew, another finds no room, one is cancelled, and the other is set. -/
theorem full_end {Q : List Rm} {j : Nat} (h : AtJ Q j) (hg : GoodQ Q) (hj : 64 ≤ j) {a : Nat} (ha : a < 64) :
    setA Q ⟨[97], [UInt8.ofNat a], 500, 1, 0⟩ = 0 ∧ setA (setQ Q ⟨[97], [UInt8.ofNat a], 500, 1, 0⟩) ⟨[98], [UInt8.ofNat a], 500, 1, 0⟩ = 6 ∧ setQ (setQ Q ⟨[97], [UInt8.ofNat a], 500, 1, 0⟩) ⟨[98], [UInt8.ofNat a], 500, 1, 0⟩ = setQ Q ⟨[97], [UInt8.ofNat a], 500, 1, 0⟩ ∧ hasR (setQ Q ⟨[97], [UInt8.ofNat a], 500, 1, 0⟩) [97] [UInt8.ofNat a] = true ∧ setA (canR (setQ Q ⟨[97], [UInt8.ofNat a], 500, 1, 0⟩) [97] [UInt8.ofNat a]) ⟨[98], [UInt8.ofNat a], 500, 1, 0⟩ = 0 ∧ (setQ (canR (setQ Q ⟨[97], [UInt8.ofNat a], 500, 1, 0⟩) [97] [UInt8.ofNat a]) ⟨[98], [UInt8.ofNat a], 500, 1, 0⟩).length = 64 := by
  have hl := h.len
  have e0 : ∀ c : UInt8, errR ⟨[c], [UInt8.ofNat a], 500, 1, 0⟩ = 0 := fun c => by
    rw [errR, if_neg (by simp [isKey]), if_neg (by simp)]
  have hh : hasR Q [97] [UInt8.ofNat a] = true := by rw [h.has a (by omega)]; simp; omega
  have a1 : setA Q ⟨[97], [UInt8.ofNat a], 500, 1, 0⟩ = 0 := by
    rw [setA, if_neg (by simp [e0]), if_neg (fun e => by have := e.1; rw [hh] at this; cases this)]
  have q1 : setQ Q ⟨[97], [UInt8.ofNat a], 500, 1, 0⟩ = setR Q ⟨[97], [UInt8.ofNat a], 500, 1, 0⟩ := by rw [setQ, if_pos a1]
  have g1 : GoodQ (setR Q ⟨[97], [UInt8.ofNat a], 500, 1, 0⟩) := by
    rw [← q1]
    exact hg.setQ ⟨by show I64 500; unfold I64; decide, by show I64 1; unfold I64; decide, by show I64 0; unfold I64; decide⟩
  have l1 : (setR Q ⟨[97], [UInt8.ofNat a], 500, 1, 0⟩).length = 64 := by rw [setR_length hg, if_pos hh, hl]; omega
  have b1 : hasR (setR Q ⟨[97], [UInt8.ofNat a], 500, 1, 0⟩) [98] [UInt8.ofNat a] = false := by rw [hasR_set, h.nob]; simp
  have c1 : hasR (setR Q ⟨[97], [UInt8.ofNat a], 500, 1, 0⟩) [97] [UInt8.ofNat a] = true := by rw [hasR_set]; simp
  rw [q1]
  generalize setR Q ⟨[97], [UInt8.ofNat a], 500, 1, 0⟩ = Q1 at *
  have a2 : setA Q1 ⟨[98], [UInt8.ofNat a], 500, 1, 0⟩ = 6 := by rw [setA, if_neg (by simp [e0]), if_pos ⟨b1, l1⟩]
  have l3 := canR_length g1.one c1
  have a3 : setA (canR Q1 [97] [UInt8.ofNat a]) ⟨[98], [UInt8.ofNat a], 500, 1, 0⟩ = 0 := by
    rw [setA, if_neg (by simp [e0]), if_neg (fun e => by have := e.2; omega)]
  refine ⟨a1, a2, by rw [setQ, a2, if_neg (by decide)], c1, a3, ?_⟩
  rw [setQ, if_pos a3, setR_length (g1.can _ _)]
  have : hasR (canR Q1 [97] [UInt8.ofNat a]) [98] [UInt8.ofNat a] = false := hasR_can _ _ _ _ _ b1
  show (if hasR (canR Q1 [97] [UInt8.ofNat a]) [98] [UInt8.ofNat a] = true then _ else _) = _
  rw [this, if_neg (by decide)]
  omega
section
variable {w : World}
set_option maxHeartbeats 2000000 in
theorem full_walk (n a : Nat) (hn : n < 256) (ha : a < 256) : Calls Try.prog 7 #[.int .u8 (n : Int), .int .u8 (a : Int)] w fun e w' => e = .returned (.bool true) ∧ Kept [] w w' := by
  go_enter Try.func7, Try.ntmps7
  go_wp2_with fail
  refine awake9.mono ?_
  rintro e w1 ⟨rfl, k1⟩
  go_wp2_with fail
  refine (one_new (w0 := w) k1).mono ?_
  rintro e w2 ⟨p, rfl, T2⟩
  have HT2 := Hid.mk T2
  clear T2 k1
  go_wp2_with fail
  obtain ⟨N, hN, hN80⟩ : ∃ N : Nat, ((n : Int) % 80) = (N : Int) ∧ N < 80 := ⟨n % 80, by omega, by omega⟩
  rw [hN]
  go_loopw [19] (fun i wr => ∃ j : Nat, i = .int .i64 (j : Int) ∧ j ≤ N ∧ Hid (∃ Q, One w wr p Q ∧ AtJ Q j)) (fun i _ => N - (intOf i).toNat)
  case atStart => exact ⟨0, rfl, by omega, Hid.mk ⟨_, HT2.out, AtJ.new⟩⟩
  case round =>
    obtain ⟨j, rfl, hj, ht⟩ := hrel
    obtain ⟨Q, T, A⟩ := ht.out
    by_cases hlt : j < N
    · have hjI : (j : Int) < (N : Int) := by omega
      have hs := str1 wr (UInt8.ofNat j)
      have hu : ((UInt8.ofNat j).toNat : Int) = (j : Int) := by simp; omega
      rw [hu] at hs
      obtain ⟨W4, e4, k4, -, -⟩ := box1 wr (.cells #[.int .u8 (j : Int)] 5)
      have hs : (convert 37 9 (.slice (some ⟨wr.heap.size, 0, none⟩) 1 1)).run Try.prog W4 = .ok (Sv [UInt8.ofNat j]) W4 := by rw [← e4]; exact hs
      obtain ⟨A5, e5⟩ := A.step T.good (by omega)
      have HS : Hid (Calls Try.prog 17 #[.pointer (some ⟨p, 0, none⟩), Rv ⟨[97], [UInt8.ofNat j], (j : Int), 1, 0⟩] W4 fun e w' => e = .returned (Iv (setA Q (remI j))) ∧ One w w' p (setQ Q (remI j))) := one_set (T.kept0 k4) (remI j) ⟨by show I64 j; unfold I64; omega, by show I64 1; unfold I64; decide, by show I64 0; unfold I64; decide⟩ (by simp [remI]) (by simp [remI])
      have HA := Hid.mk A5
      rw [e5] at HS
      generalize setQ Q (remI j) = Q5 at HS HA
      clear T A A5 ht k4 hu e5
      by_cases h64 : j < 64
      · rw [if_pos h64] at HS
        have h64I : (j : Int) < 64 := by omega
        go_wp2_with fail
        refine HS.out.mono ?_
        rintro e w5 ⟨rfl, T5⟩
        have HR : Hid (∃ Q, One w w5 p Q ∧ AtJ Q (j + 1)) := ⟨_, T5, HA.out⟩
        clear T5 HA HS hs e4
        go_wp2_with fail
        go_roundw
        case rel => exact ⟨j + 1, by go_num, by omega, HR⟩
        case measure => simp [intOf]; omega
      · rw [if_neg h64] at HS
        have h64I : ((j : Int) < 64) = False := eq_false (by omega)
        go_wp2_with fail
        refine HS.out.mono ?_
        rintro e w5 ⟨rfl, T5⟩
        have HR : Hid (∃ Q, One w w5 p Q ∧ AtJ Q (j + 1)) := ⟨_, T5, HA.out⟩
        clear T5 HA HS hs e4
        go_wp2_with fail
        go_roundw
        case rel => exact ⟨j + 1, by go_num, by omega, HR⟩
        case measure => simp [intOf]; omega
    · obtain rfl : j = N := by omega
      by_cases h64 : j < 64
      · have h64I : (j : Int) < 64 := by omega
        have HA := Hid.mk (one_all T)
        have hl : Q.length = j := by have := A.len; omega
        rw [hl] at HA
        clear T A ht hl
        go_wp2_with fail
        refine HA.out.mono ?_
        rintro e w4 ⟨b, rfl, T4⟩
        have HK := Hid.mk T4.kept
        clear T4 HA
        go_wp2_with fail
        go_ret
        exact ⟨rfl, HK.out⟩
      · have h64I : ((j : Int) < 64) = False := eq_false (by omega)
        obtain ⟨B, hB, hB64⟩ : ∃ B : Nat, ((a : Int) % 64) = (B : Int) ∧ B < 64 := ⟨a % 64, by omega, by omega⟩
        obtain ⟨r1, r2, r3, r4, r5, r6⟩ := full_end A T.good (by omega) hB64
        have hs := str1 wr (UInt8.ofNat B)
        have hu : ((UInt8.ofNat B).toNat : Int) = (B : Int) := by simp; omega
        rw [hu] at hs
        obtain ⟨W4, e4, k4, -, -⟩ := box1 wr (.cells #[.int .u8 (B : Int)] 5)
        have hs : (convert 37 9 (.slice (some ⟨wr.heap.size, 0, none⟩) 1 1)).run Try.prog W4 = .ok (Sv [UInt8.ofNat B]) W4 := by rw [← e4]; exact hs
        have g6 : ∀ c : UInt8, R64 ⟨[c], [UInt8.ofNat B], 500, 1, 0⟩ := fun c => ⟨by show I64 500; unfold I64; decide, by show I64 1; unfold I64; decide, by show I64 0; unfold I64; decide⟩
        have H1 := Hid.mk (one_set (T.kept0 k4) ⟨[97], [UInt8.ofNat B], 500, 1, 0⟩ (g6 97) (by simp) (by simp))
        rw [r1] at H1
        have H2 : Hid (∀ W, One w W p (setQ Q ⟨[97], [UInt8.ofNat B], 500, 1, 0⟩) → Calls Try.prog 17 #[.pointer (some ⟨p, 0, none⟩), Rv ⟨[98], [UInt8.ofNat B], 500, 1, 0⟩] W fun e w' => e = .returned (Iv 6) ∧ One w w' p (setQ Q ⟨[97], [UInt8.ofNat B], 500, 1, 0⟩)) := fun W T => by
          have := one_set T ⟨[98], [UInt8.ofNat B], 500, 1, 0⟩ (g6 98) (by simp) (by simp)
          rw [r2, r3] at this
          exact this
        have H3 : Hid (∀ W, One w W p (setQ Q ⟨[97], [UInt8.ofNat B], 500, 1, 0⟩) → Calls Try.prog 20 #[.pointer (some ⟨p, 0, none⟩), Sv [97], Sv [UInt8.ofNat B]] W fun e w' => e = .returned (.bool true) ∧ One w w' p (canR (setQ Q ⟨[97], [UInt8.ofNat B], 500, 1, 0⟩) [97] [UInt8.ofNat B])) := fun W T => by
          have := one_cancel T [97] [UInt8.ofNat B]
          rw [r4] at this
          exact this
        have H4 : Hid (∀ W, One w W p (canR (setQ Q ⟨[97], [UInt8.ofNat B], 500, 1, 0⟩) [97] [UInt8.ofNat B]) → Calls Try.prog 17 #[.pointer (some ⟨p, 0, none⟩), Rv ⟨[98], [UInt8.ofNat B], 500, 1, 0⟩] W fun e w' => e = .returned (Iv 0) ∧ One w w' p (setQ (canR (setQ Q ⟨[97], [UInt8.ofNat B], 500, 1, 0⟩) [97] [UInt8.ofNat B]) ⟨[98], [UInt8.ofNat B], 500, 1, 0⟩)) := fun W T => by
          have := one_set T ⟨[98], [UInt8.ofNat B], 500, 1, 0⟩ (g6 98) (by simp) (by simp)
          rw [r5] at this
          exact this
        have H5 : Hid (∀ W, One w W p (setQ (canR (setQ Q ⟨[97], [UInt8.ofNat B], 500, 1, 0⟩) [97] [UInt8.ofNat B]) ⟨[98], [UInt8.ofNat B], 500, 1, 0⟩) → Calls Try.prog 18 #[.pointer (some ⟨p, 0, none⟩)] W fun e w' => ∃ b, e = .returned (.slice (some ⟨b, 0, none⟩) 64 64) ∧ Kept [] w w') := fun W T => by
          have := one_all T
          rw [r6] at this
          refine this.mono ?_
          rintro e w' ⟨b, rfl, T'⟩
          exact ⟨b, rfl, T'.kept⟩
        generalize setQ (canR (setQ Q ⟨[97], [UInt8.ofNat B], 500, 1, 0⟩) [97] [UInt8.ofNat B]) ⟨[98], [UInt8.ofNat B], 500, 1, 0⟩ = Q3 at H4 H5
        generalize canR (setQ Q ⟨[97], [UInt8.ofNat B], 500, 1, 0⟩) [97] [UInt8.ofNat B] = Q2 at H3 H4
        generalize setQ Q ⟨[97], [UInt8.ofNat B], 500, 1, 0⟩ = Q1 at H1 H2 H3
        clear T A ht k4 hu r1 r2 r3 r4 r5 r6 g6
        go_wp2_with fail
        refine H1.out.mono ?_
        rintro e w5 ⟨rfl, T5⟩
        have HC := Hid.mk (H2.out _ T5)
        clear T5 H1 H2
        go_wp2_with fail
        refine HC.out.mono ?_
        rintro e w6 ⟨rfl, T6⟩
        have HD := Hid.mk (H3.out _ T6)
        clear T6 HC H3
        go_wp2_with fail
        refine HD.out.mono ?_
        rintro e w7 ⟨rfl, T7⟩
        have HE := Hid.mk (H4.out _ T7)
        clear T7 HD H4
        go_wp2_with fail
        refine HE.out.mono ?_
        rintro e w8 ⟨rfl, T8⟩
        have HF := Hid.mk (H5.out _ T8)
        clear T8 HE H5
        go_wp2_with fail
        refine HF.out.mono ?_
        rintro e w9 ⟨b, rfl, k9⟩
        go_wp2_with fail
        go_ret
        exact ⟨rfl, k9⟩
end
end Go.Proofs.Ytelmppfacgdfbaa
