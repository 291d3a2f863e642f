/-
  SuperLost: the walk.
-/
import Derived.Test.YthjdlbejfaejkaaLost
namespace Go.Proofs.Ythjdlbejfaejkaa
open Go.RowKit
set_option linter.unusedVariables false

set_option maxRecDepth 100000 in
set_option maxHeartbeats 400000 in
theorem lost_long (a : Option Addr) (n cap : Nat) (v : Value) (w : World) (hn : 60 < n) : Calls Try.prog 5 #[.slice a n cap, v] w fun e w' => e = .returned (.bool true) ∧ Kept [] w w' := by
  have hn2 : (60 : Int) < (n : Int) := by omega
  go_enter Try.func5, Try.ntmps5
  go_wp2_with fail
  refine (awake_any _).mono ?_
  rintro e w1 ⟨rfl, k1⟩
  go_wp2_with fail
  refine (awake_any _).mono ?_
  rintro e w2 ⟨rfl, k2⟩
  have k := k1.trans k2 (by simp)
  clear k1 k2
  go_wp2_with fail
  go_ret
  exact ⟨rfl, k⟩

theorem tmod3_yes (n : Nat) (h : n % 3 = 0) : (((n : Int).tmod 3) == 0) = true := by rw [Int.tmod_eq_emod_of_nonneg (by omega), beq_iff_eq]; omega
theorem tmod3_no (n : Nat) (h : ¬ n % 3 = 0) : (((n : Int).tmod 3) == 0) = false := by rw [Int.tmod_eq_emod_of_nonneg (by omega), beq_eq_false_iff_ne]; omega

set_option maxRecDepth 100000 in
set_option maxHeartbeats 1000000 in
theorem lost_walk (v vf : Value) (ls : List (List UInt8)) (fs : List UInt8) (w : World) (hv : HoldsL w v ls) (hf : Reads w vf fs) (hn : ls.length ≤ 60) : Calls Try.prog 5 #[v, vf] w fun e w' => e = .returned (.bool true) ∧ Kept [] w w' := by
  have hn2 : ¬ (60 : Int) < (ls.length : Int) := by omega
  have HV := Hid.mk hv
  have HF := Hid.mk hf
  obtain ⟨a, cap, rfl, hcap, hmax, -⟩ := hv
  obtain ⟨af, capf, rfl, hcapf, hmaxf, -, -⟩ := hf
  have hmax' : cap ≤ 9223372036854775807 := hmax
  have hmaxf' : capf ≤ 9223372036854775807 := hmaxf
  clear hmax hmaxf
  go_enter Try.func5, Try.ntmps5
  go_wp2_with fail
  refine (awake_any _).mono ?_
  rintro e w1 ⟨rfl, k1⟩
  have hnew : Calls Try.prog 8 #[.int .i64 2] w1 fun e w' => ∃ q, e = .returned (.pointer (some ⟨q, 0, none⟩)) ∧ Dsk w w' q 2 [] := new_dsk 2 (by omega) k1
  go_wp2_with fail
  refine hnew.mono ?_
  rintro e w2 ⟨q, rfl, h2⟩
  have hop := open_dsk h2 (by omega) (by simp)
  clear hnew k1 h2
  go_wp2_with fail
  refine hop.mono ?_
  rintro e w3 ⟨p0, rfl, h3, -⟩
  clear hop
  go_wp2_with fail
  go_loopw [6, 8, 9, 29] (fun sv last nv i wr => ∃ (p j : Nat) (saves : List (List UInt8)), j ≤ ls.length ∧ saves.length ≤ j ∧ sv = .pointer (some ⟨p, 0, none⟩) ∧ i = .int .i64 (j : Int) ∧ nv = .int .u64 (saves.length : Int) ∧ last = .string ⟨(lastS saves).toArray⟩ ∧ Has w wr q p 2 saves) (fun _ _ _ i _ => ls.length - (intOf i).toNat)
  case atStart => exact ⟨p0, 0, [], Nat.zero_le _, Nat.zero_le _, rfl, rfl, rfl, rfl, h3⟩
  case round =>
    clear h3
    obtain ⟨p, j, saves, hj, hsj, rfl, rfl, rfl, rfl, hH⟩ := hrel
    by_cases hlt : j < ls.length
    · have hlt2 : (j : Int) < (ls.length : Int) := by omega
      obtain ⟨l, hl⟩ : ∃ l, ls[j]? = some l := ⟨ls[j], by simp⟩
      obtain ⟨b, o, cap', al, cl, hve, -, -, hcell, hrd⟩ := HV.out.at j l hl
      injection hve with e1 e2 e3
      subst e1 e3
      clear e2
      have HC : Hid (∀ W, Kept [] w W → W.cell? ⟨b, o + j, none⟩ = some (.slice al l.length cl) ∧ Reads W (.slice al l.length cl) l) := fun W k => ⟨by rw [k.cell (World.block_lt_of_cell? _ _ hcell) (by simp)]; exact hcell, hrd.kept k (by simp)⟩
      obtain ⟨hc, hr⟩ := HC.out _ hH.k
      clear hcell hrd hl
      by_cases h200 : l.length ≤ 200
      · have h200' : ¬ (200 : Int) < (l.length : Int) := by omega
        by_cases hfj : j < fs.length
        · have hfj2 : (j : Int) < (fs.length : Int) := by omega
          obtain ⟨u, hu⟩ : ∃ u, fs[j]? = some u := ⟨fs[j], by simp⟩
          rcases reads_cases (HF.out.kept hH.k (by simp)) with ⟨a', c', he, rfl, _⟩ | ⟨bf, of, cf, he, _, _, hcf⟩
          · simp at hfj
          injection he with e1 e2 e3
          subst e1 e3
          have hcu := hcf j u hu
          unfold B8 at hcu
          clear hcf hu e2
          by_cases h3 : u.toNat % 3 = 0
          · skip
            have h3' : (((u.toNat : Int).tmod 3) == 0) = true := tmod3_yes _ h3
            have hfu := fuse_has hH
            clear hH hr
            go_wp2_with fail
            refine hfu.mono ?_
            rintro e wA ⟨rfl, hA⟩
            obtain ⟨hcA, hrA⟩ := HC.out _ hA.k
            have hsA := save_gone hA (by omega) (by omega) _ l hrA h200
            clear hfu hA hrA hc hcu
            go_wp2_with fail
            refine hsA.mono ?_
            rintro e wB ⟨rfl, hB⟩
            have hgB := gen_hasG hB
            have htB := text_hasG hB
            have hhB := Hid.mk hB
            clear hsA hB hcA
            go_wp2_with fail
            refine hgB.mono ?_
            rintro e w' ⟨rfl, rfl⟩
            go_wp2_with fail
            refine htB.mono ?_
            rintro e wC ⟨aC, cC, rfl, hsC, kC⟩
            have hC := hhB.out.keep kC
            have hoC := open_gone hC (by omega)
            have hhC := Hid.mk hC
            clear hgB htB hhB kC hC
            go_wp2_with fail
            refine hoC.mono ?_
            rintro e wD ⟨rfl, kD⟩
            have hD := hhC.out.keep kD
            have hrD := restart_has hD
            clear hoC hhC kD hD hsC
            go_wp2_with fail
            refine hrD.mono ?_
            rintro e wE ⟨rfl, hE⟩
            obtain ⟨hcE, hrE⟩ := HC.out _ hE.k
            have hsE := save_behind hE _ l hrE h200
            have hoE := open_dsk hE.dsk (by omega) (by omega)
            clear hrD hE hrE
            go_wp2_with fail
            refine hsE.mono ?_
            rintro e w' ⟨rfl, rfl⟩
            clear hsE
            go_wp2_with fail
            refine hoE.mono ?_
            rintro e wF ⟨pF, rfl, h5, -⟩
            clear hoE hcE
            obtain ⟨hc5, hr5⟩ := HC.out _ h5.k
            have hsv := save_has h5 (by omega) (by omega) _ l hr5 h200
            have eL : (((saves ++ [l]).length : Nat) : Int) = (saves.length : Int) + 1 := by simp
            have eW : IntKind.u64.wrap ((saves.length : Int) + 1) = (saves.length : Int) + 1 := by rw [show IntKind.u64.wrap ((saves.length : Int) + 1) = ((saves.length : Int) + 1) % 18446744073709551616 by simp [IntKind.wrap, IntKind.bits, IntKind.signed]]; omega
            have hEL := Hid.mk eL
            have hES := Hid.mk (lastS_snoc saves l)
            clear eL h5
            go_wp2_with fail
            refine hsv.mono ?_
            rintro e w6 ⟨rfl, h6⟩
            obtain ⟨hc6, hr6⟩ := HC.out _ h6.k
            have hst6 := str34 _ _ w6 hr6
            have hg6 := gen_has h6
            have ht6 := text_has h6
            rw [hEL.out] at hg6
            rw [hES.out] at ht6
            have hh6 := Hid.mk h6
            clear hsv h6 hr6 hc5 hr5
            go_wp2_with fail
            refine hg6.mono ?_
            rintro e w' ⟨rfl, rfl⟩
            go_wp2_with fail
            refine ht6.mono ?_
            rintro e w7 ⟨a7, c7, rfl, hs7, k7⟩
            have hh7 : Hid (Has w w7 q _ 2 (saves ++ [l])) := hh6.out.keep k7
            clear hg6 ht6 hh6 k7 hc6 hst6
            go_wp2_with fail
            go_roundw
            case rel => exact ⟨_, j + 1, saves ++ [l], by omega, by simp; omega, rfl, by go_num, by rw [hEL.out], by rw [hES.out], hh7.out⟩
            case measure => simp [intOf]; omega
          · have h3' : (((u.toNat : Int).tmod 3) == 0) = false := tmod3_no _ h3
            have h5 := hH
            clear hH hr
            obtain ⟨hc5, hr5⟩ := HC.out _ h5.k
            have hsv := save_has h5 (by omega) (by omega) _ l hr5 h200
            have eL : (((saves ++ [l]).length : Nat) : Int) = (saves.length : Int) + 1 := by simp
            have eW : IntKind.u64.wrap ((saves.length : Int) + 1) = (saves.length : Int) + 1 := by rw [show IntKind.u64.wrap ((saves.length : Int) + 1) = ((saves.length : Int) + 1) % 18446744073709551616 by simp [IntKind.wrap, IntKind.bits, IntKind.signed]]; omega
            have hEL := Hid.mk eL
            have hES := Hid.mk (lastS_snoc saves l)
            clear eL h5
            go_wp2_with fail
            refine hsv.mono ?_
            rintro e w6 ⟨rfl, h6⟩
            obtain ⟨hc6, hr6⟩ := HC.out _ h6.k
            have hst6 := str34 _ _ w6 hr6
            have hg6 := gen_has h6
            have ht6 := text_has h6
            rw [hEL.out] at hg6
            rw [hES.out] at ht6
            have hh6 := Hid.mk h6
            clear hsv h6 hr6 hc5 hr5
            go_wp2_with fail
            refine hg6.mono ?_
            rintro e w' ⟨rfl, rfl⟩
            go_wp2_with fail
            refine ht6.mono ?_
            rintro e w7 ⟨a7, c7, rfl, hs7, k7⟩
            have hh7 : Hid (Has w w7 q _ 2 (saves ++ [l])) := hh6.out.keep k7
            clear hg6 ht6 hh6 k7 hc6 hst6
            go_wp2_with fail
            go_roundw
            case rel => exact ⟨_, j + 1, saves ++ [l], by omega, by simp; omega, rfl, by go_num, by rw [hEL.out], by rw [hES.out], hh7.out⟩
            case measure => simp [intOf]; omega
        · have hfj2 : ¬ (j : Int) < (fs.length : Int) := by omega
          have h5 := hH
          clear hH hr
          obtain ⟨hc5, hr5⟩ := HC.out _ h5.k
          have hsv := save_has h5 (by omega) (by omega) _ l hr5 h200
          have eL : (((saves ++ [l]).length : Nat) : Int) = (saves.length : Int) + 1 := by simp
          have eW : IntKind.u64.wrap ((saves.length : Int) + 1) = (saves.length : Int) + 1 := by rw [show IntKind.u64.wrap ((saves.length : Int) + 1) = ((saves.length : Int) + 1) % 18446744073709551616 by simp [IntKind.wrap, IntKind.bits, IntKind.signed]]; omega
          have hEL := Hid.mk eL
          have hES := Hid.mk (lastS_snoc saves l)
          clear eL h5
          go_wp2_with fail
          refine hsv.mono ?_
          rintro e w6 ⟨rfl, h6⟩
          obtain ⟨hc6, hr6⟩ := HC.out _ h6.k
          have hst6 := str34 _ _ w6 hr6
          have hg6 := gen_has h6
          have ht6 := text_has h6
          rw [hEL.out] at hg6
          rw [hES.out] at ht6
          have hh6 := Hid.mk h6
          clear hsv h6 hr6 hc5 hr5
          go_wp2_with fail
          refine hg6.mono ?_
          rintro e w' ⟨rfl, rfl⟩
          go_wp2_with fail
          refine ht6.mono ?_
          rintro e w7 ⟨a7, c7, rfl, hs7, k7⟩
          have hh7 : Hid (Has w w7 q _ 2 (saves ++ [l])) := hh6.out.keep k7
          clear hg6 ht6 hh6 k7 hc6 hst6
          go_wp2_with fail
          go_roundw
          case rel => exact ⟨_, j + 1, saves ++ [l], by omega, by simp; omega, rfl, by go_num, by rw [hEL.out], by rw [hES.out], hh7.out⟩
          case measure => simp [intOf]; omega
      · have h200' : (200 : Int) < (l.length : Int) := by omega
        have hh := Hid.mk hH
        clear hH hr
        go_wp2_with fail
        go_roundw
        case rel => exact ⟨_, j + 1, saves, by omega, by omega, rfl, by go_num, rfl, rfl, hh.out⟩
        case measure => simp [intOf]; omega
    · have hlt2 : ¬ (j : Int) < (ls.length : Int) := by omega
      have hk := hH.k
      clear hH
      go_wp2
      go_ret
      exact ⟨rfl, hk⟩

theorem lost_any (v vf : Value) (ls : List (List UInt8)) (fs : List UInt8) (w : World) (hv : HoldsL w v ls) (hf : Reads w vf fs) : Calls Try.prog 5 #[v, vf] w fun e w' => e = .returned (.bool true) ∧ Kept [] w w' := by
  by_cases hn : ls.length ≤ 60
  · exact lost_walk v vf ls fs w hv hf hn
  · obtain ⟨a, cap, rfl, _⟩ := hv
    exact lost_long a ls.length cap vf w (by omega)

end Go.Proofs.Ythjdlbejfaejkaa
