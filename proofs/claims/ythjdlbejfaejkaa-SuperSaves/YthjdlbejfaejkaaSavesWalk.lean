/-
  SuperSaves: the walk.
-/
import Derived.Test.YthjdlbejfaejkaaLists
namespace Go.Proofs.Ythjdlbejfaejkaa
open Go.RowKit
set_option linter.unusedVariables false

set_option maxRecDepth 100000 in
set_option maxHeartbeats 400000 in
theorem saves_long (a : Option Addr) (n cap : Nat) (z : Int) (w : World) (hn : 100 < n) : Calls Try.prog 3 #[.slice a n cap, .int .u8 z] w fun e w' => e = .returned (.bool true) ∧ Kept [] w w' := by
  have hn2 : (100 : Int) < (n : Int) := by omega
  go_enter Try.func3, Try.ntmps3
  go_wp2_with fail
  refine (awake_any _).mono ?_
  rintro e w1 ⟨rfl, k1⟩
  go_wp2_with fail
  refine (awake_any _).mono ?_
  rintro e w2 ⟨rfl, k2⟩
  have k := k1.trans k2 (by simp)
  clear k1 k2
  go_wp2_with fail
  go_ret
  exact ⟨rfl, k⟩

set_option maxRecDepth 100000 in
set_option maxHeartbeats 400000 in
theorem saves_few (a : Option Addr) (n cap : Nat) (nb : Nat) (w : World) (hn : n ≤ 100) (hb : nb < 2) : Calls Try.prog 3 #[.slice a n cap, .int .u8 (nb : Int)] w fun e w' => e = .returned (.bool true) ∧ Kept [] w w' := by
  have hn2 : ¬ (100 : Int) < (n : Int) := by omega
  have hb2 : (nb : Int) < 2 := by omega
  have hw1 : IntKind.i64.wrap (nb : Int) = (nb : Int) := by rw [IntKind.wrap_i64]; omega
  have hw2 : wrap64 (nb : Int) = (nb : Int) := by unfold wrap64; omega
  go_enter Try.func3, Try.ntmps3
  go_wp2_with fail
  refine (awake_any _).mono ?_
  rintro e w1 ⟨rfl, k1⟩
  have hnew := new_dsk (w0 := w) nb (by omega) k1
  go_wp2_with fail
  refine hnew.mono ?_
  rintro e w2 ⟨q, rfl, h2⟩
  have k2 := h2.k
  have hop := open_few h2 hb
  clear hnew k1 h2
  go_wp2_with fail
  refine hop.mono ?_
  rintro e w3 ⟨rfl, rfl⟩
  go_wp2_with fail
  go_ret
  exact ⟨rfl, k2⟩

set_option maxRecDepth 100000 in
set_option maxHeartbeats 1000000 in
theorem saves_walk (v : Value) (ls : List (List UInt8)) (nb : Nat) (w : World) (hv : HoldsL w v ls) (hn : ls.length ≤ 100) (hb : 2 ≤ nb) (hb8 : nb < 256) : Calls Try.prog 3 #[v, .int .u8 (nb : Int)] w fun e w' => e = .returned (.bool true) ∧ Kept [] w w' := by
  have hn2 : ¬ (100 : Int) < (ls.length : Int) := by omega
  have hb2 : ¬ (nb : Int) < 2 := by omega
  have hw1 : IntKind.i64.wrap (nb : Int) = (nb : Int) := by rw [IntKind.wrap_i64]; omega
  have hw2 : wrap64 (nb : Int) = (nb : Int) := by unfold wrap64; omega
  have HV := Hid.mk hv
  obtain ⟨a, cap, rfl, hcap, hmax, -⟩ := hv
  have hmax' : cap ≤ 9223372036854775807 := hmax
  clear hmax
  go_enter Try.func3, Try.ntmps3
  go_wp2_with fail
  refine (awake_any _).mono ?_
  rintro e w1 ⟨rfl, k1⟩
  have hnew := new_dsk (w0 := w) nb (by omega) k1
  go_wp2_with fail
  refine hnew.mono ?_
  rintro e w2 ⟨q, rfl, h2⟩
  have hop := open_dsk h2 hb (by simp)
  clear hnew k1 h2
  go_wp2_with fail
  refine hop.mono ?_
  rintro e w3 ⟨p, rfl, h3, -⟩
  have hg3 := gen_has h3
  have ht3 := pay_has h3
  clear hop
  go_wp2_with fail
  refine hg3.mono ?_
  rintro e w' ⟨rfl, rfl⟩
  clear hg3
  go_wp2_with fail
  refine ht3.mono ?_
  rintro e w4 ⟨v4, rfl, hO4, k4, -⟩
  obtain ⟨a4, c4, hv4⟩ := hO4.form
  subst hv4
  have h4 := h3.keep k4
  clear hO4 k4 h3 ht3
  rw [show (lastS []).length = 0 from rfl]
  go_wp2_with fail
  go_loopw [8, 9, 54] (fun nv last i wr => ∃ (j : Nat) (saves : List (List UInt8)), j ≤ ls.length ∧ saves.length ≤ j ∧ i = .int .i64 (j : Int) ∧ nv = .int .i64 (saves.length : Int) ∧ last = .string ⟨(lastS saves).toArray⟩ ∧ Has w wr q p nb saves) (fun _ _ i _ => ls.length - (intOf i).toNat)
  case atStart => exact ⟨0, [], Nat.zero_le _, Nat.zero_le _, rfl, rfl, rfl, h4⟩
  case round =>
    clear h4
    obtain ⟨j, saves, hj, hsj, rfl, rfl, rfl, hH⟩ := hrel
    by_cases hlt : j < ls.length
    · have hlt2 : (j : Int) < (ls.length : Int) := by omega
      obtain ⟨l, hl⟩ : ∃ l, ls[j]? = some l := ⟨ls[j], by simp⟩
      obtain ⟨b, o, cap', al, cl, hve, -, -, hcell, hrd⟩ := (HV.out.keep hH.k).at j l hl
      injection hve with e1 e2 e3
      subst e1 e3
      clear e2
      by_cases h200 : l.length ≤ 200
      · have h200' : (l.length : Int) ≤ 200 := by omega
        have hsv := save_has hH hb (by omega) _ l hrd h200
        have hkw := hH.k
        go_wp2_with fail
        refine hsv.mono ?_
        rintro e w5 ⟨rfl, h5⟩
        have hc5 : ∃ al' cl', w5.cell? ⟨b, o + j, none⟩ = some (.slice al' l.length cl') ∧ Reads w5 (.slice al' l.length cl') l := by
          obtain ⟨b', o', cap'', al', cl', hve', -, -, hc', hr'⟩ := (HV.out.keep h5.k).at j l hl
          injection hve' with e1 e2 e3
          injection e1 with e1
          cases e1
          exact ⟨al', cl', hc', hr'⟩
        obtain ⟨al', cl', hc5, hr5⟩ := hc5
        have hst5 := str34 _ _ w5 hr5
        have hwn := written_dsk h5.dsk saves.length (by simp)
        have hop := open_dsk h5.dsk hb (by simp; omega)
        have hm : saves.length % 2 < 2 := by omega
        generalize saves.length % 2 = m at hwn hm
        clear hsv hH hcell hrd hr5 hkw
        have hsub : ((saves.length : Int) + 1) - 1 = (saves.length : Int) := by omega
        go_wp2_with fail
        refine hwn.mono ?_
        rintro e w' ⟨rfl, rfl⟩
        clear hwn
        obtain ⟨M, hM, hM2⟩ : ∃ M : Int, ((m : Nat) : Int) = M ∧ (M = 0 ∨ M = 1) := ⟨m, rfl, by omega⟩
        rw [hM]
        clear hM hm
        have eL : (((saves ++ [l]).length : Nat) : Int) = (saves.length : Int) + 1 := by simp
        have eW : IntKind.u64.wrap ((saves.length : Int) + 1) = (saves.length : Int) + 1 := by rw [show IntKind.u64.wrap ((saves.length : Int) + 1) = ((saves.length : Int) + 1) % 18446744073709551616 by simp [IntKind.wrap, IntKind.bits, IntKind.signed]]; omega
        have eS := lastS_snoc saves l
        have hEL := Hid.mk eL
        have hES := Hid.mk eS
        clear eL eS
        rcases hM2 with rfl | rfl
        all_goals
          go_wp2_with fail
          refine hop.mono ?_
          rintro e w6 ⟨p6, rfl, h6, k6⟩
          have h7 := h5.keep k6
          have hwr := writes_dsk h7.dsk
          have hg7 := gen_has h7
          have hg6 := gen_has h6
          have ht7 := text_has h7
          have hh6 := Hid.mk h6
          have hh7 := Hid.mk h7
          rw [hEL.out] at hwr hg7 hg6; rw [hES.out] at ht7
          clear hop k6 h5 h6 h7
          go_wp2_with fail
          refine hwr.mono ?_
          rintro e w' ⟨rfl, rfl⟩
          go_wp2_with fail
          refine hg7.mono ?_
          rintro e w' ⟨rfl, rfl⟩
          go_wp2_with fail
          refine hg6.mono ?_
          rintro e w' ⟨rfl, rfl⟩
          go_wp2_with fail
          refine ht7.mono ?_
          rintro e w7 ⟨a7, c7, rfl, hs7, k7⟩
          have ht6 := text_has (hh6.out.keep k7)
          have hh8 : Hid (Has w w7 q p nb (saves ++ [l])) := hh7.out.keep k7
          rw [hES.out] at ht6
          clear hwr hg7 hg6 ht7 hh6 hh7 k7
          go_wp2_with fail
          refine ht6.mono ?_
          rintro e w8 ⟨a8, c8, rfl, hs8, k8⟩
          have hh9 : Hid (Has w w8 q p nb (saves ++ [l])) := hh8.out.keep k8
          clear ht6 hh8 k8 hs7
          go_wp2_with fail
          go_roundw
          case rel => exact ⟨j + 1, saves ++ [l], by omega, by simp; omega, by go_num, by rw [hEL.out], by rw [hES.out], hh9.out⟩
          case measure => simp [intOf]; omega
      · have h200' : ¬ (l.length : Int) ≤ 200 := by omega
        have hsv := long_has (p := p) _ l hrd (by omega)
        have hop := open_dsk hH.dsk hb (by omega)
        have eW : IntKind.u64.wrap (saves.length : Int) = (saves.length : Int) := by rw [show IntKind.u64.wrap (saves.length : Int) = (saves.length : Int) % 18446744073709551616 by simp [IntKind.wrap, IntKind.bits, IntKind.signed]]; omega
        have h5 := hH
        clear hH
        go_wp2_with fail
        refine hsv.mono ?_
        rintro e w' ⟨rfl, rfl⟩
        clear hsv
        go_wp2_with fail
        refine hop.mono ?_
        rintro e w6 ⟨p6, rfl, h6, k6⟩
        have h7 := h5.keep k6
        have hwr := writes_dsk h7.dsk
        have hg7 := gen_has h7
        have hg6 := gen_has h6
        have ht7 := text_has h7
        have hh6 := Hid.mk h6
        have hh7 := Hid.mk h7
        skip
        clear hop k6 h5 h6 h7
        go_wp2_with fail
        refine hwr.mono ?_
        rintro e w' ⟨rfl, rfl⟩
        go_wp2_with fail
        refine hg7.mono ?_
        rintro e w' ⟨rfl, rfl⟩
        go_wp2_with fail
        refine hg6.mono ?_
        rintro e w' ⟨rfl, rfl⟩
        go_wp2_with fail
        refine ht7.mono ?_
        rintro e w7 ⟨a7, c7, rfl, hs7, k7⟩
        have ht6 := text_has (hh6.out.keep k7)
        have hh8 : Hid (Has w w7 q p nb saves) := hh7.out.keep k7
        skip
        clear hwr hg7 hg6 ht7 hh6 hh7 k7
        go_wp2_with fail
        refine ht6.mono ?_
        rintro e w8 ⟨a8, c8, rfl, hs8, k8⟩
        have hh9 : Hid (Has w w8 q p nb saves) := hh8.out.keep k8
        clear ht6 hh8 k8 hs7
        go_wp2_with fail
        go_roundw
        case rel => exact ⟨j + 1, saves, by omega, by omega, by go_num, rfl, rfl, hh9.out⟩
        case measure => simp [intOf]; omega
    · have hlt2 : ¬ (j : Int) < (ls.length : Int) := by omega
      have hk := hH.k
      clear hH
      go_wp2
      go_ret
      exact ⟨rfl, hk⟩

theorem saves_any (v : Value) (ls : List (List UInt8)) (nb : Nat) (w : World) (hv : HoldsL w v ls) (hb8 : nb < 256) : Calls Try.prog 3 #[v, .int .u8 (nb : Int)] w fun e w' => e = .returned (.bool true) ∧ Kept [] w w' := by
  by_cases hn : ls.length ≤ 100
  · by_cases hb : 2 ≤ nb
    · exact saves_walk v ls nb w hv hn hb hb8
    · obtain ⟨a, cap, rfl, _⟩ := hv
      exact saves_few a ls.length cap nb w hn (by omega)
  · obtain ⟨a, cap, rfl, _⟩ := hv
    exact saves_long a ls.length cap (nb : Int) w (by omega)

end Go.Proofs.Ythjdlbejfaejkaa
