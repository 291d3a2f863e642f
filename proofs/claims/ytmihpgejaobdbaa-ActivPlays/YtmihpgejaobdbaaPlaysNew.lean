/-
  ActivPlays: a table that New makes.
-/
import Derived.Test.YtmihpgejaobdbaaBo
import Derived.Test.YtmihpgejaobdbaaOq
namespace Go.Proofs.Ytmihpgejaobdbaa
set_option maxRecDepth 100000
open Go.RowKit
set_option linter.unusedVariables false
section
variable {w : World}
set_option maxHeartbeats 4000000 in
theorem plays_new (most : Int) {a : Option Addr} {ln cap : Nat} {ops : List Pq} (hK : OpsIn w (.slice a ln cap) ops) : Calls Try.prog 3 #[.int .i64 most, .slice a ln cap, .bool false] w fun e w' => e = .returned (.bool true) ∧ Kept [] w w' := by
  obtain ⟨hl, hc1, hc2⟩ := hK.1.bound
  have HK := Hid.mk hK
  have HL := Hid.mk hl
  clear hK hl
  go_enter Try.func3, Try.ntmps3
  go_wp2_with fail
  refine (awake7 _).mono ?_
  rintro e w1 ⟨rfl, k1⟩
  have K1 := Hid.mk k1
  clear k1
  by_cases h300 : 300 < ln
  · have hI : (300 : Int) < (ln : Int) := by omega
    go_wp2_with fail
    refine (awake7 _).mono ?_
    rintro e w2 ⟨rfl, k2⟩
    have K2 : Hid (Kept [] w w2) := K1.out.trans k2 (by simp)
    clear k2
    go_wp2_with fail
    go_ret
    exact ⟨rfl, K2.out⟩
  · have hI : ¬ (300 : Int) < (ln : Int) := by omega
    go_wp2_with fail
    refine (new8 most _).mono ?_
    rintro e w2 ⟨T, rfl, hT, k2, hT2⟩
    have K2 : Hid (Kept [] w w2) := K1.out.trans k2 (by simp)
    have HT := Hid.mk (And.intro hT (Nat.le_trans K1.out.size hT2))
    clear hT k2 hT2 K1
    go_wp2_with fail
    refine (new9 most _).mono ?_
    rintro e w3 ⟨U, rfl, hU, k3, hU2⟩
    have hcp : min (max most 1) 10000 = ((cp (min (max most 1) 10000) : Nat) : Int) := by unfold cp; omega
    have hc10 : cp (min (max most 1) 10000) ≤ 10000 := by unfold cp; omega
    have b0 : Both w w3 T U (min (max most 1) 10000) [] := by
      refine ⟨⟨[T], footU U (.slice none 0 0), HT.out.1.kept k3 (by simp), ⟨_, by rw [← hcp]; exact hU, rfl⟩, fun b hb hc => ?_, fun b hb => by simp at hb; subst hb; exact HT.out.2, fun b hb => ?_, K2.out.trans k3 (by simp)⟩, by simp, hc10⟩
      · simp [footU, Value.ownBlock] at hb hc
        have := HT.out.1.lt T (by simp)
        omega
      · simp [footU, Value.ownBlock] at hb
        subst hb
        exact Nat.le_trans K2.out.size hU2
    have HB0 := Hid.mk b0
    clear b0 hcp hc10 hU hU2 HT
    generalize min (max most 1) 10000 = mt at HB0
    clear k3 K2
    go_wp2_with fail
    go_loopw [33] (fun i wr => ∃ j : Nat, i = .int .i64 (j : Int) ∧ j ≤ ln ∧ Hid (∃ L, Both w wr T U mt L)) (fun i _ => ln - (intOf i).toNat)
    case atStart => exact ⟨0, rfl, by omega, Hid.mk ⟨[], HB0.out⟩⟩
    case round =>
      obtain ⟨j, rfl, hj, hP⟩ := hrel
      by_cases hlt : j < ln
      · obtain ⟨L, hL⟩ := hP.out
        obtain ⟨q, hq⟩ : ∃ q, ops[j]? = some q := ⟨_, List.getElem?_eq_getElem (by have := HL.out; omega)⟩
        have hold := hL.pair.old
        obtain ⟨b, o, rfl, e1, e2⟩ := (HK.out.1.kept0 hold).at hq
        have hsl := HK.out.2 q (List.mem_of_getElem? hq)
        obtain ⟨kd, k⟩ := q
        have HSL : Hid (k.length ≤ 140737488355328) := hsl
        have HB := Hid.mk hL
        have hjI : (j : Int) < (ln : Int) := by omega
        clear hq hsl hold hL hP
        simp only at e1 e2
        by_cases hk1 : kd = 1
        · subst hk1
          go_wp2_with fail
          refine (HB.out.touchT_ HSL.out).mono ?_
          rintro e w4 ⟨rfl, hc⟩
          generalize hO : (touchT (cp mt) L k).2 = O at *
          clear hO
          unfold tin at hc ⊢
          have HC := Hid.mk hc
          clear hc e1 e2
          go_wp2_with fail
          refine HC.out.mono ?_
          rintro e w5 ⟨rfl, b5⟩
          have HB5 := Hid.mk b5
          clear b5 HC HB
          generalize (touchT (cp mt) L k).1 = L2 at HB5
          generalize O.getD [] = X
          generalize O.isSome = bb
          have hbb : (bb != bb) = false := by cases bb <;> rfl
          have hXX : (X == X) = true := by simp
          go_wp2_with fail
          obtain ⟨au, cu, s1, s0, -⟩ := HB5.out.cells
          have b6 : Both w w5.drew T U mt L2 := HB5.out.quiet ((Kept.refl [] _).drew)
          have hfl := b6.few
          have hfc := b6.cap
          have HLs := Hid.mk b6.list
          have HMo : Hid (∀ V, Kept [] w5.drew V → Calls Try.prog 18 #[Pp T] V (fun e w' => e = .returned (.int .i64 ((cp mt : Nat) : Int)) ∧ V = w')) := fun V k => (b6.quiet k).most
          have HSa : Hid (∀ (V : World) (a : Option Addr) (c : Nat), Kept [] w5.drew V → TextsIn V (.slice a L2.length c) L2 → Calls Try.prog 16 #[.slice a L2.length c, .slice au L2.length cu] V (fun e w' => e = .returned (.bool true) ∧ Kept [] V w')) := fun V a c k t => by
            obtain ⟨a2, c2, q1, -, q3⟩ := (b6.quiet k).cells
            have q4 := k.cell_eq s1
            have e := Option.some.inj (q1.symm.trans q4)
            injection e with e1 e2 e3
            subst e1 e3
            exact same16 t q3
          have HB6 := Hid.mk b6
          have S0 := And.intro s1 s0
          have K60 := Hid.mk s0
          have K61 := Hid.mk s1
          generalize hCC : ((cp mt : Nat) : Int) = CC at *
          clear b6 hCC
          go_region_held3 (fun V => V.cell? ⟨U, 1, none⟩ = some (.slice au L2.length cu) ∧ V.cell? ⟨U, 0, none⟩ = some (.int .i64 CC)) (first | exact S0 | exact S1 | exact S2) (first | (go_at_call 18; refine (HMo.out _ K7.out).mono ?_; rintro e w8 ⟨rfl, rfl⟩) | (go_at_call 16; refine (HSa.out _ _ _ K6.out T6.out).mono ?_; rintro e w7 ⟨rfl, k7⟩; have K7 := Hid.mk (K6.out.trans k7 (by simp)); have S2 := And.intro (K7.out.cell_eq K61.out) (K7.out.cell_eq K60.out); clear k7) | (go_at_call 17; refine HLs.out.mono ?_; rintro e w6 ⟨al, cl, rfl, t6, k6⟩; have K6 := Hid.mk k6; have T6 := Hid.mk t6; have S1 := And.intro (K6.out.cell_eq K61.out) (K6.out.cell_eq K60.out); clear k6 t6))
          have HB7 := Hid.mk (HB6.out.quiet K7.out)
          clear HB6 HB5 HLs HMo HSa S0 S1 S2 K6 T6 K7 K60 K61
          go_wp2_with fail
          go_roundw
          case rel => exact ⟨j + 1, by go_num, by omega, Hid.mk ⟨_, HB7.out⟩⟩
          case measure => first | (simp [intOf]; done) | (simp [intOf]; omega)
        · by_cases hk2 : kd = 2
          · subst hk2
            go_wp2_with fail
            refine (HB.out.dropT HSL.out).mono ?_
            rintro e w4 ⟨rfl, hc⟩
            have HC := Hid.mk hc
            clear hc e1 e2
            go_wp2_with fail
            refine HC.out.mono ?_
            rintro e w5 ⟨rfl, b5⟩
            have HB5 := Hid.mk b5
            clear b5 HC HB
            generalize noT L k = L2 at HB5
            generalize decide (k ∈ L) = bb
            have hbb : (bb != bb) = false := by cases bb <;> rfl
            go_wp2_with fail
            obtain ⟨au, cu, s1, s0, -⟩ := HB5.out.cells
            have b6 : Both w w5.drew T U mt L2 := HB5.out.quiet ((Kept.refl [] _).drew)
            have hfl := b6.few
            have hfc := b6.cap
            have HLs := Hid.mk b6.list
            have HMo : Hid (∀ V, Kept [] w5.drew V → Calls Try.prog 18 #[Pp T] V (fun e w' => e = .returned (.int .i64 ((cp mt : Nat) : Int)) ∧ V = w')) := fun V k => (b6.quiet k).most
            have HSa : Hid (∀ (V : World) (a : Option Addr) (c : Nat), Kept [] w5.drew V → TextsIn V (.slice a L2.length c) L2 → Calls Try.prog 16 #[.slice a L2.length c, .slice au L2.length cu] V (fun e w' => e = .returned (.bool true) ∧ Kept [] V w')) := fun V a c k t => by
              obtain ⟨a2, c2, q1, -, q3⟩ := (b6.quiet k).cells
              have q4 := k.cell_eq s1
              have e := Option.some.inj (q1.symm.trans q4)
              injection e with e1 e2 e3
              subst e1 e3
              exact same16 t q3
            have HB6 := Hid.mk b6
            have S0 := And.intro s1 s0
            have K60 := Hid.mk s0
            have K61 := Hid.mk s1
            generalize hCC : ((cp mt : Nat) : Int) = CC at *
            clear b6 hCC
            go_region_held3 (fun V => V.cell? ⟨U, 1, none⟩ = some (.slice au L2.length cu) ∧ V.cell? ⟨U, 0, none⟩ = some (.int .i64 CC)) (first | exact S0 | exact S1 | exact S2) (first | (go_at_call 18; refine (HMo.out _ K7.out).mono ?_; rintro e w8 ⟨rfl, rfl⟩) | (go_at_call 16; refine (HSa.out _ _ _ K6.out T6.out).mono ?_; rintro e w7 ⟨rfl, k7⟩; have K7 := Hid.mk (K6.out.trans k7 (by simp)); have S2 := And.intro (K7.out.cell_eq K61.out) (K7.out.cell_eq K60.out); clear k7) | (go_at_call 17; refine HLs.out.mono ?_; rintro e w6 ⟨al, cl, rfl, t6, k6⟩; have K6 := Hid.mk k6; have T6 := Hid.mk t6; have S1 := And.intro (K6.out.cell_eq K61.out) (K6.out.cell_eq K60.out); clear k6 t6))
            have HB7 := Hid.mk (HB6.out.quiet K7.out)
            clear HB6 HB5 HLs HMo HSa S0 S1 S2 K6 T6 K7 K60 K61
            go_wp2_with fail
            go_roundw
            case rel => exact ⟨j + 1, by go_num, by omega, Hid.mk ⟨_, HB7.out⟩⟩
            case measure => first | (simp [intOf]; done) | (simp [intOf]; omega)
          · go_wp2_with fail
            obtain ⟨au, cu, s1, s0, -⟩ := HB.out.cells
            have b6 := HB.out.quiet ((Kept.refl [] _).drew)
            have HH := Hid.mk (b6.has HSL.out)
            obtain ⟨au', cu', s1', -, q3⟩ := b6.cells
            have e := Option.some.inj (s1'.symm.trans s1)
            injection e with e3 e4 e5
            subst e3 e5
            have HH2 := Hid.mk (has15 q3 k)
            have HB6 := Hid.mk b6
            generalize decide (k ∈ L) = bb at HH HH2
            have hbb : (bb != bb) = false := by cases bb <;> rfl
            clear b6 q3 s0 s1' HB e1 e2
            go_region_held3 (fun V => V.cell? ⟨U, 1, none⟩ = some (.slice au' L.length cu')) (exact s1) (first | (go_at_call 15; refine HH2.out.mono ?_; rintro e w6 ⟨rfl, rfl⟩) | (go_at_call 14; refine HH.out.mono ?_; rintro e w6 ⟨rfl, rfl⟩))
            have HB5 := HB6
            clear HB6 HH HH2
            generalize World.drew _ = w5 at HB5 ⊢
            go_wp2_with fail
            obtain ⟨au, cu, s1, s0, -⟩ := HB5.out.cells
            have b6 : Both w w5.drew T U mt L := HB5.out.quiet ((Kept.refl [] _).drew)
            have hfl := b6.few
            have hfc := b6.cap
            have HLs := Hid.mk b6.list
            have HMo : Hid (∀ V, Kept [] w5.drew V → Calls Try.prog 18 #[Pp T] V (fun e w' => e = .returned (.int .i64 ((cp mt : Nat) : Int)) ∧ V = w')) := fun V k => (b6.quiet k).most
            have HSa : Hid (∀ (V : World) (a : Option Addr) (c : Nat), Kept [] w5.drew V → TextsIn V (.slice a L.length c) L → Calls Try.prog 16 #[.slice a L.length c, .slice au L.length cu] V (fun e w' => e = .returned (.bool true) ∧ Kept [] V w')) := fun V a c k t => by
              obtain ⟨a2, c2, q1, -, q3⟩ := (b6.quiet k).cells
              have q4 := k.cell_eq s1
              have e := Option.some.inj (q1.symm.trans q4)
              injection e with e1 e2 e3
              subst e1 e3
              exact same16 t q3
            have HB6 := Hid.mk b6
            have S0 := And.intro s1 s0
            have K60 := Hid.mk s0
            have K61 := Hid.mk s1
            generalize hCC : ((cp mt : Nat) : Int) = CC at *
            clear b6 hCC
            go_region_held3 (fun V => V.cell? ⟨U, 1, none⟩ = some (.slice au L.length cu) ∧ V.cell? ⟨U, 0, none⟩ = some (.int .i64 CC)) (first | exact S0 | exact S1 | exact S2) (first | (go_at_call 18; refine (HMo.out _ K7.out).mono ?_; rintro e w8 ⟨rfl, rfl⟩) | (go_at_call 16; refine (HSa.out _ _ _ K6.out T6.out).mono ?_; rintro e w7 ⟨rfl, k7⟩; have K7 := Hid.mk (K6.out.trans k7 (by simp)); have S2 := And.intro (K7.out.cell_eq K61.out) (K7.out.cell_eq K60.out); clear k7) | (go_at_call 17; refine HLs.out.mono ?_; rintro e w6 ⟨al, cl, rfl, t6, k6⟩; have K6 := Hid.mk k6; have T6 := Hid.mk t6; have S1 := And.intro (K6.out.cell_eq K61.out) (K6.out.cell_eq K60.out); clear k6 t6))
            have HB7 := Hid.mk (HB6.out.quiet K7.out)
            clear HB6 HB5 HLs HMo HSa S0 S1 S2 K6 T6 K7 K60 K61
            go_wp2_with fail
            go_roundw
            case rel => exact ⟨j + 1, by go_num, by omega, Hid.mk ⟨_, HB7.out⟩⟩
            case measure => first | (simp [intOf]; done) | (simp [intOf]; omega)
      · obtain rfl : j = ln := by omega
        have hjI : ((j : Int) < (j : Int)) = False := eq_false (by omega)
        obtain ⟨L, hL⟩ := hP.out
        have HK6 := Hid.mk hL.pair.old
        clear hL hP
        go_wp2_with fail
        go_ret
        exact ⟨rfl, HK6.out⟩
end
end Go.Proofs.Ytmihpgejaobdbaa
