/-
  ActivTwo: the walk.
-/
import Derived.Test.YtmihpgejaobdbaaPr
import Derived.Test.YtmihpgejaobdbaaOq
namespace Go.Proofs.Ytmihpgejaobdbaa
set_option maxRecDepth 100000
open Go.RowKit
set_option linter.unusedVariables false
section
variable {w : World}
theorem all_step {ks : List Ky} {j : Nat} {s : Ky} (hs : ks[j]? = some s) : allT (ks.take (j + 1)) = addT (allT (ks.take j)) s := by
  rw [List.take_add_one, hs]
  exact allT_snoc _ _
theorem last_step {c : Nat} (hc : 1 ≤ c) {ks : List Ky} {j : Nat} {s : Ky} (hs : ks[j]? = some s) : (touchT c (lastT c (allT (ks.take j))) s).1 = lastT c (allT (ks.take (j + 1))) := by
  rw [touch_last hc (allT_nodup _), all_step hs]
set_option maxHeartbeats 600000 in
theorem two_walk (n m : Nat) (hn : n < 256) (hm : m < 256) {a : Option Addr} {ln cap : Nat} {ks : List Ky} (hK : KeysIn w (.slice a ln cap) ks) : Calls Try.prog 6 #[.int .u8 (n : Int), .int .u8 (m : Int), .slice a ln cap] w fun e w' => e = .returned (.bool true) ∧ Kept [] w w' := by
  obtain ⟨hl, hc1, hc2⟩ := hK.1.bound
  have HK := Hid.mk hK
  have HL := Hid.mk hl
  clear hK hl
  go_enter Try.func6, Try.ntmps6
  go_wp2_with fail
  refine (awake7 _).mono ?_
  rintro e w1 ⟨rfl, k1⟩
  have K1 := Hid.mk k1
  clear k1
  by_cases h300 : 300 < ln
  · have hI : (300 : Int) < (ln : Int) := by omega
    go_wp2_with fail
    refine (awake7 _).mono ?_
    rintro e w2 ⟨rfl, k2⟩
    have K2 : Hid (Kept [] w w2) := K1.out.trans k2 (by simp)
    clear k2
    go_wp2_with fail
    go_ret
    exact ⟨rfl, K2.out⟩
  · have hI : ¬ (300 : Int) < (ln : Int) := by omega
    go_wp2_with fail
    refine (new8 (n : Int) _).mono ?_
    rintro e w2 ⟨A, rfl, hA, k2, hA2⟩
    have K2 : Hid (Kept [] w w2) := K1.out.trans k2 (by simp)
    have HA := Hid.mk (And.intro hA (Nat.le_trans K1.out.size hA2))
    clear hA k2 hA2 K1
    go_wp2_with fail
    refine (new8 ((n : Int) + (m : Int)) _).mono ?_
    rintro e w3 ⟨B, rfl, hB, k3, hB2⟩
    have hca : cp (min (max (n : Int) 1) 10000) = max n 1 := cp_min n (by omega)
    have hcb : cp (min (max ((n : Int) + (m : Int)) 1) 10000) = max (n + m) 1 := by
      have := cp_min (n + m) (by omega)
      rw [← this]
      congr 1
    have hA := HA.out
    clear HA
    have p0 : Pair w w3 (TX A (min (max (n : Int) 1) 10000) []) (TX B (min (max ((n : Int) + (m : Int)) 1) 10000) []) :=
      ⟨[A], [B], hA.1.kept k3 (by simp), hB, fun b hb hc => by
        simp at hb hc
        have := hA.1.lt A (by simp)
        omega, fun b hb => by simp at hb; subst hb; exact hA.2, fun b hb => by simp at hb; subst hb; exact Nat.le_trans K2.out.size hB2, K2.out.trans k3 (by simp)⟩
    generalize hma : min (max (n : Int) 1) 10000 = ma at *
    generalize hmb : min (max ((n : Int) + (m : Int)) 1) 10000 = mb at *
    have P0 := Hid.mk p0
    have HCA := Hid.mk hca
    have HCB := Hid.mk hcb
    have H1 : Hid (1 ≤ cp ma ∧ cp ma ≤ 10000 ∧ 1 ≤ cp mb ∧ cp mb ≤ 10000 ∧ cp ma ≤ cp mb) := by
      show _ ∧ _
      rw [hca, hcb]
      omega
    clear p0 hca hcb hA hB k3 hB2 hma hmb K2
    go_wp2_with fail
    go_loopw [31] (fun i wr => ∃ j : Nat, i = .int .i64 (j : Int) ∧ j ≤ ln ∧ Hid (Pair w wr (TX A ma (lastT (cp ma) (allT (ks.take j)))) (TX B mb (lastT (cp mb) (allT (ks.take j)))))) (fun i _ => ln - (intOf i).toNat)
    case atStart => exact ⟨0, rfl, by omega, Hid.mk (by
      have := P0.out
      rw [show ks.take 0 = [] from rfl, show allT [] = [] from rfl, lastT_nil, lastT_nil]
      exact this)⟩
    case round =>
      obtain ⟨j, rfl, hj, hP⟩ := hrel
      by_cases hlt : j < ln
      · obtain ⟨s, hs⟩ : ∃ s, ks[j]? = some s := ⟨_, List.getElem?_eq_getElem (by have := HL.out; omega)⟩
        obtain ⟨b, o, rfl, e2⟩ := TextsIn.at (HK.out.1.kept0 hP.out.old) hs
        have hsl := HK.out.2 s (List.mem_of_getElem? hs)
        have HS := Hid.mk hs
        have HSL := Hid.mk hsl
        have hjI : (j : Int) < (ln : Int) := by omega
        clear hs hsl
        go_wp2_with fail
        refine (hP.out.touch (stays_T _ _ _) HSL.out (lastT_len _ _) H1.out.2.1).mono ?_
        rintro e w4 ⟨rfl, p4⟩
        rw [last_step H1.out.1 HS.out] at p4
        have HP4 := Hid.mk p4
        obtain ⟨b', o', e3, e4⟩ := TextsIn.at (HK.out.1.kept0 p4.old) HS.out
        injection e3 with e3
        injection e3 with e5 e6
        rw [← e5, ← e6] at e4
        clear p4 hP e5 e6 e2
        go_wp2_with fail
        refine (HP4.out.swap.touch (stays_T _ _ _) HSL.out (lastT_len _ _) H1.out.2.2.2.1).mono ?_
        rintro e w5 ⟨rfl, p5⟩
        rw [last_step H1.out.2.2.1 HS.out] at p5
        have HP5 := Hid.mk p5.swap
        clear p5 HP4 e4
        go_wp2_with fail
        go_roundw
        case rel => exact ⟨j + 1, by go_num, by omega, HP5⟩
        case measure => simp [intOf]; omega
      · obtain rfl : j = ln := by omega
        have hjI : ((j : Int) < (j : Int)) = False := eq_false (by omega)
        have hP2 := hP.out
        rw [List.take_of_length_le (by rw [HL.out]; omega)] at hP2
        have HP2 := Hid.mk hP2
        have hL1 := lastT_len (cp ma) (allT ks)
        have hL2 := lastT_len (cp mb) (allT ks)
        obtain ⟨t1, t2⟩ := last_two H1.out.2.2.2.2 (allT ks)
        obtain ⟨F, hX⟩ := hP2.left
        have HX := Hid.mk (list17 hX (by have := H1.out; omega))
        have HT := Hid.mk (And.intro t1 t2)
        have HB2 : Hid ((lastT (cp mb) (allT ks)).length ≤ 10000) := by have := H1.out; show _ ≤ _; omega
        clear hP hP2 hL1 hL2 hX t1 t2
        go_wp2_with fail
        refine HX.out.mono ?_
        rintro e w4 ⟨v1, rfl, hO1, k4, hf4⟩
        have p4 := HP2.out.quiet (stays_T _ _ _) (stays_T _ _ _) k4
        obtain ⟨G, hY⟩ := p4.right
        have HY := Hid.mk (list17 hY HB2.out)
        have HO1 := Hid.mk hO1
        have HP4 := Hid.mk p4
        clear hO1 k4 hf4 p4 hY HX HP2
        go_wp2_with fail
        refine HY.out.mono ?_
        rintro e w5 ⟨v2, rfl, hO2, k5, hf5⟩
        have hO1 := HO1.out.kept k5 (by simp)
        have K5 : Hid (Kept [] w w5) := HP4.out.old.trans k5 (by simp)
        obtain ⟨n1, hn1⟩ : ∃ n1, (lastT (cp ma) (allT ks)).length = n1 := ⟨_, rfl⟩
        obtain ⟨n2, hn2⟩ : ∃ n2, (lastT (cp mb) (allT ks)).length = n2 := ⟨_, rfl⟩
        have ht := HT.out
        rw [hn1, hn2] at ht
        obtain ⟨d, rfl⟩ : ∃ d, n2 = n1 + d := ⟨n2 - n1, by omega⟩
        rw [Nat.add_sub_cancel_left] at ht
        have hb2 := HB2.out
        rw [hn2] at hb2
        have hT1 : TextsIn w5 v1 (lastT (cp ma) (allT ks)) := hO1.reads (CT_wide _)
        have hT2 : TextsIn w5 v2 (lastT (cp mb) (allT ks)) := hO2.reads (CT_wide _)
        obtain ⟨a1, c1, rfl, g1, g2⟩ := OwnsR.form hO1
        obtain ⟨a2, c2, rfl, g3, g4⟩ := OwnsR.form hO2
        rw [CT_length (lastT (cp ma) (allT ks)), hn1] at hT1 g1 ⊢
        rw [CT_length (lastT (cp mb) (allT ks)), hn2] at hT2 g3 ⊢
        have hC := ReadsR.cut (k := 1) (i := d) (j := n1 + d) (m := c2) (by rw [CT_length, hn2]) hT2 (by omega) (Nat.le_refl _) g3 (Nat.le_refl _)
        have eC : ((CT (lastT (cp mb) (allT ks))).take (n1 + d)).drop d = CT (lastT (cp ma) (allT ks)) := by
          rw [List.take_of_length_le (by rw [CT_length, hn2]; omega), ht.2, CT, CT, List.map_drop]
        rw [eC, Nat.add_sub_cancel] at hC
        have hS := same16 (w := w5) hT1 hC
        have hle : (n1 : Int) ≤ ((n1 + d : Nat) : Int) := by omega
        clear hC eC hT1 hT2 hO1 hO2 k5 hf5 ht hn1 hn2
        by_cases hcd : c2 = d
        · subst hcd
          obtain rfl : n1 = 0 := by omega
          have e : cutA a2 c2 c2 1 = a2 := by unfold cutA; rw [if_pos rfl]
          rw [e, Nat.sub_self] at hS
          have HS := Hid.mk hS
          clear hS e
          go_wp2_with fail
          refine HS.out.mono ?_
          rintro e w6 ⟨rfl, k6⟩
          have K6 : Hid (Kept [] w w6) := K5.out.trans k6 (by simp)
          clear k6 HS
          go_wp2_with fail
          go_ret
          exact ⟨rfl, K6.out⟩
        · have e : cutA a2 c2 d 1 = a2.map (fun x => x.add d) := by unfold cutA; rw [if_neg hcd, Nat.mul_one]
          rw [e] at hS
          have HS := Hid.mk hS
          clear hS e
          go_wp2_with fail
          refine HS.out.mono ?_
          rintro e w6 ⟨rfl, k6⟩
          have K6 : Hid (Kept [] w w6) := K5.out.trans k6 (by simp)
          clear k6 HS
          go_wp2_with fail
          go_ret
          exact ⟨rfl, K6.out⟩
end
end Go.Proofs.Ytmihpgejaobdbaa
