/-
  JournalPlays: the walk.
-/
import Derived.Test.YtbmpoboenhdnoaaTw
namespace Go.Proofs.Ytbmpoboenhdnoaa
set_option maxRecDepth 100000
open Go.RowKit
set_option linter.unusedVariables false
section
variable {w : World}
theorem zeroC32 : (cellsF z8 (.slice none 0 0) 0).toArray = #[Iv 0, Iv 0, Iv 0, Iv 0, Iv 0, Iv 0, Iv 0, Iv 0, .slice none 0 0, .int .u64 0] := rfl
set_option maxHeartbeats 8000000 in
theorem plays_walk {v : Value} {ls : List (List Ep)} (hI : EvssIn w v ls) (fo : Nat) (ze : Bool) (hf : fo < 18446744073709551616) : Calls Try.prog 3 #[v, Uv fo, .bool ze] w fun e w' => e = .returned (.bool true) ∧ Kept [] w w' := by
  obtain ⟨a, c, rfl, hc1, hc2⟩ := hI.form
  have HI := Hid.mk hI
  clear hI
  generalize hn : ls.length = n at *
  have HN := Hid.mk hn
  clear hn
  go_enter Try.func3, Try.ntmps3
  go_wp2_with fail
  refine (awake9 (w := w)).mono ?_
  rintro e w1 ⟨rfl, k1⟩
  have HK1 := Hid.mk k1
  have HFE := Hid.mk (few10 (HI.out.kept k1))
  clear k1
  go_wp2_with fail
  refine HFE.out.mono ?_
  rintro e w1' ⟨⟨b, rfl, hfew⟩, rfl⟩
  clear HFE
  have HFW := Hid.mk hfew
  clear hfew
  cases b with
  | false =>
    go_wp2_with fail
    refine (awake9 (w := w1)).mono ?_
    rintro e w2 ⟨rfl, k2⟩
    go_wp2_with fail
    go_ret
    exact ⟨rfl, HK1.out.trans k2 (by simp)⟩
  | true =>
    obtain ⟨hn61, hl5⟩ := HFW.out rfl
    rw [HN.out] at hn61
    have HL5 := Hid.mk hl5
    clear hl5 HFW
    go_wp2_with fail
    refine (new11 (w := w1)).mono ?_
    rintro e w2 ⟨p, rfl, hJ2, k2, hp2⟩
    have T3 := two_new (w0 := w) (HK1.out.trans k2 (by simp)) hJ2 GoodJ.new (Nat.le_trans HK1.out.size hp2)
    rw [zeroC32] at T3
    have HT3 := Hid.mk T3
    clear T3 hJ2 k2 hp2
    have hAlloc : (w2.alloc (.cells #[Iv 0, Iv 0, Iv 0, Iv 0, Iv 0, Iv 0, Iv 0, Iv 0, .slice none 0 0, .int .u64 0] 32)).heap.size = w2.heap.size + 1 := by simp
    have HT3b : Hid (Two w ((w2.alloc (.cells #[Iv 0, Iv 0, Iv 0, Iv 0, Iv 0, Iv 0, Iv 0, Iv 0, .slice none 0 0, .int .u64 0] 32)).alloc (.cells (cellsP newJ.base (padE []) 0 0).toArray 37)) (w2.heap.size + 1) w2.heap.size newJ newJ) := by
      have T := HT3.out.kept0 ((Kept.refl [] _).alloc (.cells (cellsP newJ.base (padE []) 0 0).toArray 37))
      have hJ := IsJ.new (w2.alloc (.cells #[Iv 0, Iv 0, Iv 0, Iv 0, Iv 0, Iv 0, Iv 0, Iv 0, .slice none 0 0, .int .u64 0] 32))
      rw [hAlloc] at hJ
      exact ⟨hJ, T.isF, GoodJ.new, T.gj, by have := T.hf; omega, T.hf, T.kept⟩
    clear hAlloc
    cases ze
    have HT4 := HT3
    clear HT3 HT3b
    go_wp2_with fail
    generalize w2.heap.size = f at *
    generalize p = q at *
    rotate_left
    have HT4 := HT3b
    clear HT3 HT3b
    go_wp2_with fail
    generalize w2.heap.size + 1 = q at *
    generalize w2.heap.size = f at *
    rotate_left
    all_goals
      go_loopw [26] (fun i wr => ∃ k : Nat, i = .int .i64 (k : Int) ∧ k ≤ n ∧ ∃ J, J.ver ≤ k * 500 ∧ Hid (Two w wr q f J J)) (fun i _ => n - (intOf i).toNat)
      case atStart => exact ⟨0, rfl, by omega, newJ, by simp [newJ], HT4⟩
      case round =>
        obtain ⟨k, rfl, hk, J, hJv, H⟩ := hrel
        clear HT4
        by_cases hlt : k < n
        · obtain ⟨l, hl⟩ : ∃ l, ls[k]? = some l := ⟨_, List.getElem?_eq_getElem (by have := HN.out; omega)⟩
          have HX : Hid (∀ W, Kept [] w W → True) := fun _ _ => trivial
          obtain ⟨b, o, a', c', rfl, d0, hEv, q1, q2⟩ := HI.out.at hl
          have hl500 := HL5.out l (List.mem_of_getElem? hl)
          have hjI : (k : Int) < (n : Int) := by omega
          have hj0 : (0 : Int) ≤ (k : Int) := by omega
          have HC : Hid (∀ W, Kept [] w W → W.cell? ⟨b, o + k, none⟩ = some (.slice a' l.length c')) := fun W kk => kk.cell_eq d0
          have HEV := Hid.mk hEv
          have HV := Hid.mk (addR_ver J l)
          have S0 := HC.out _ H.out.kept.drew
          have HA := Hid.mk (two_theirs (H.out.kept0 (Kept.refl [] wr).drew) hEv (by omega))
          have HB : Hid (∀ W u, Two w W q f J J → OwnsR 34 2 W u (CE l) → Calls Try.prog 12 #[.pointer (some ⟨q, 0, none⟩), u] W fun e w' => e = .returned (Iv (addC l)) ∧ Two w w' q f (addR J l) J) := fun W u T hO => two_addP T hO hEv.2 (by omega) (by omega)
          have HD : Hid (∀ W, Two w W q f (addR J l) J → Calls Try.prog 14 #[.pointer (some ⟨f, 0, none⟩), .slice a' l.length c'] W fun e w' => e = .returned (Iv (addC l)) ∧ Two w w' q f (addR J l) (addR J l)) := fun W T => two_addF T hEv (by omega) (by omega)
          clear hl hEv d0 H HX
          generalize l.length = m at *
          generalize addC l = ac at *
          generalize addR J l = J2 at *
          go_wp2_with fail
          go_region_held3 (fun V => V.cell? ⟨b, o + k, none⟩ = some (.slice a' m c')) (first | with_reducible exact S0 | with_reducible exact S1 | with_reducible exact S2 | with_reducible exact S3 | with_reducible exact S4) (first | (go_at_call 15; refine (two_same T3.out).mono ?_; rintro e w6 ⟨rfl, t4, -⟩; have T4 := Hid.mk t4; have S4 := HC.out _ t4.kept; clear t4) | (go_at_call 14; refine (HD.out _ T2.out).mono ?_; rintro e w5 ⟨rfl, t3⟩; have T3 := Hid.mk t3; have S3 := HC.out _ t3.kept; clear t3) | (go_at_call 12; refine (HB.out _ _ T1.out O1.out).mono ?_; rintro e w4 ⟨rfl, t2⟩; have T2 := Hid.mk t2; have S2 := HC.out _ t2.kept; clear t2) | (go_at_call 13; refine HA.out.mono ?_; rintro e w3 ⟨u3, rfl, o1, t1, -⟩; have T1 := Hid.mk t1; have O1 := Hid.mk o1; have S1 := HC.out _ t1.kept; clear t1 o1))
          clear S0 S1 S2 S3 S4 HA HB HD T1 T2 T3 O1
          have f0 : (0 : Int) ≤ (k : Int) := by omega
          have HV2 := Hid.mk (Nat.le_trans HV.out (Nat.add_le_add hJv hl500))
          clear HV
          go_wp2_with fail
          · refine (two_foldP T4.out).mono ?_
            rintro e w7 ⟨rfl, t5⟩
            have T5 := Hid.mk t5
            clear t5 T4
            go_wp2_with fail
            refine (two_foldF T5.out).mono ?_
            rintro e w8 ⟨rfl, t6⟩
            have T6 := Hid.mk t6
            clear t6 T5
            generalize J2.ev.length = ml at *
            go_wp2_with fail
            refine (two_same T6.out).mono ?_
            rintro e w9 ⟨rfl, t7, -⟩
            have T7 := Hid.mk t7
            clear t7 T6
            go_wp2_with fail
            go_roundw
            case rel => exact ⟨k + 1, by go_num, by omega, foldJ J2, by have := HV2.out; show J2.ver ≤ _; omega, T7⟩
            case measure => simp [intOf]; omega
          · go_roundw
            case rel => exact ⟨k + 1, by go_num, by omega, J2, by have := HV2.out; omega, T4⟩
            case measure => simp [intOf]; omega
        · obtain rfl : k = n := by omega
          go_wp2_with fail
          go_ret
          exact ⟨rfl, H.out.kept⟩
end
end Go.Proofs.Ytbmpoboenhdnoaa
