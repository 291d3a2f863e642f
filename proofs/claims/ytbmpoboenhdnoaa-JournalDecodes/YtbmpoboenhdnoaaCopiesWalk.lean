/-
  JournalCopies: the walk.
-/
import Derived.Test.YtbmpoboenhdnoaaTw
import Derived.Test.YtbmpoboenhdnoaaEc
import Derived.Test.YtbmpoboenhdnoaaDd
import Derived.Test.YtbmpoboenhdnoaaPlaysWalk
namespace Go.Proofs.Ytbmpoboenhdnoaa
set_option maxRecDepth 100000
open Go.RowKit
set_option linter.unusedVariables false
theorem encJn_length {j : Jn} (h : GoodJ j) : (encJn j).length ≤ 378 := by
  have h1 := encI_length j.base
  have h2 := encV_length j.ev
  have h3 := enc_length j.ver
  have h4 := enc_length j.ev.length
  have h5 := h.b8
  have h6 := h.e16
  unfold encJn
  simp only [List.length_append]
  omega
section
variable {w : World}
set_option maxHeartbeats 8000000 in
theorem copies_walk {v1 v2 : Value} {l1 l2 : List (List Ep)} (hI1 : EvssIn w v1 l1) (hI2 : EvssIn w v2 l2) : Calls Try.prog 8 #[v1, v2] w fun e w' => e = .returned (.bool true) ∧ Kept [] w w' := by
  obtain ⟨a1, c1, rfl, hc11, hc12⟩ := hI1.form
  obtain ⟨a2, c2, rfl, hc21, hc22⟩ := hI2.form
  have HI1 := Hid.mk hI1
  have HI2 := Hid.mk hI2
  clear hI1 hI2
  generalize hn1 : l1.length = n1 at *
  have HN1 := Hid.mk hn1
  generalize hn2 : l2.length = n2 at *
  have HN2 := Hid.mk hn2
  clear hn1 hn2
  go_enter Try.func8, Try.ntmps8
  go_wp2_with fail
  refine (awake9 (w := w)).mono ?_
  rintro e w1 ⟨rfl, k1⟩
  have HK1 := Hid.mk k1
  have HFE := Hid.mk (few10 (HI1.out.kept k1))
  clear k1
  go_wp2_with fail
  refine HFE.out.mono ?_
  rintro e w1' ⟨⟨b, rfl, hfew⟩, rfl⟩
  clear HFE
  have HFW := Hid.mk hfew
  clear hfew
  cases b with
  | false =>
    go_wp2_with fail
    refine (awake9 (w := w1)).mono ?_
    rintro e w2 ⟨rfl, k2⟩
    go_wp2_with fail
    go_ret
    exact ⟨rfl, HK1.out.trans k2 (by simp)⟩
  | true =>
    obtain ⟨hn61, hl5⟩ := HFW.out rfl
    rw [HN1.out] at hn61
    have HL5 := Hid.mk hl5
    clear hl5 HFW
    have HFE := Hid.mk (few10 (HI2.out.kept HK1.out))
    go_wp2_with fail
    refine HFE.out.mono ?_
    rintro e w1' ⟨⟨b, rfl, hfew⟩, rfl⟩
    clear HFE
    have HFW := Hid.mk hfew
    clear hfew
    cases b with
    | false =>
      go_wp2_with fail
      refine (awake9 (w := w1)).mono ?_
      rintro e w2 ⟨rfl, k2⟩
      go_wp2_with fail
      go_ret
      exact ⟨rfl, HK1.out.trans k2 (by simp)⟩
    | true =>
      obtain ⟨hn62, hl6⟩ := HFW.out rfl
      rw [HN2.out] at hn62
      have HL6 := Hid.mk hl6
      clear hl6 HFW
      go_wp2_with fail
      refine (new11 (w := w1)).mono ?_
      rintro e w2 ⟨p, rfl, hJ2, k2, hp2⟩
      have T3 := two_new (w0 := w) (HK1.out.trans k2 (by simp)) hJ2 GoodJ.new (Nat.le_trans HK1.out.size hp2)
      rw [zeroC32] at T3
      have HT4 := Hid.mk T3
      clear T3 hJ2 k2 hp2
      go_wp2_with fail
      generalize w2.heap.size = f at *
      go_loopw [29] (fun i wr => ∃ k : Nat, i = .int .i64 (k : Int) ∧ k ≤ n1 ∧ ∃ J, J.ver ≤ k * 500 ∧ Hid (Two w wr p f J J)) (fun i _ => n1 - (intOf i).toNat)
      case atStart => exact ⟨0, rfl, by omega, newJ, by simp [newJ], HT4⟩
      case round =>
        obtain ⟨k, rfl, hk, J, hJv, H⟩ := hrel
        clear HT4
        by_cases hlt : k < n1
        · obtain ⟨l, hl⟩ : ∃ l, l1[k]? = some l := ⟨_, List.getElem?_eq_getElem (by have := HN1.out; omega)⟩
          obtain ⟨b, o, a', c', rfl, d0, hEv, q1, q2⟩ := HI1.out.at hl
          have hl500 := HL5.out l (List.mem_of_getElem? hl)
          have hjI : (k : Int) < (n1 : Int) := by omega
          have HC : Hid (∀ W, Kept [] w W → W.cell? ⟨b, o + k, none⟩ = some (.slice a' l.length c')) := fun W kk => kk.cell_eq d0
          have HV := Hid.mk (addR_ver J l)
          have S0 := HC.out _ H.out.kept
          have HA := Hid.mk (two_theirs H.out hEv (by omega))
          have HB : Hid (∀ W u, Two w W p f J J → OwnsR 34 2 W u (CE l) → Calls Try.prog 12 #[.pointer (some ⟨p, 0, none⟩), u] W fun e w' => e = .returned (Iv (addC l)) ∧ Two w w' p f (addR J l) J) := fun W u T hO => two_addP T hO hEv.2 (by omega) (by omega)
          have HD : Hid (∀ W, Two w W p f (addR J l) J → Calls Try.prog 14 #[.pointer (some ⟨f, 0, none⟩), .slice a' l.length c'] W fun e w' => e = .returned (Iv (addC l)) ∧ Two w w' p f (addR J l) (addR J l)) := fun W T => two_addF T hEv (by omega) (by omega)
          clear hl hEv d0 H
          generalize l.length = m at *
          generalize addC l = ac at *
          generalize addR J l = J2 at *
          go_wp2_with fail
          refine HA.out.mono ?_
          rintro e w3 ⟨u3, rfl, o1, t1, -⟩
          have HB1 := Hid.mk (HB.out _ _ t1 o1)
          clear t1 o1 HA HB S0
          go_wp2_with fail
          refine HB1.out.mono ?_
          rintro e w4 ⟨rfl, t2⟩
          have HD1 := Hid.mk (HD.out _ t2)
          have S2 := HC.out _ t2.kept
          clear t2 HB1 HD
          go_wp2_with fail
          refine HD1.out.mono ?_
          rintro e w5 ⟨rfl, t3⟩
          have T3 := Hid.mk t3
          have HV2 := Hid.mk (Nat.le_trans HV.out (Nat.add_le_add hJv hl500))
          clear t3 HD1 S2 HV
          go_wp2_with fail
          go_roundw
          case rel => exact ⟨k + 1, by go_num, by omega, J2, by have := HV2.out; omega, T3⟩
          case measure => simp [intOf]; omega
        · obtain rfl : k = n1 := by omega
          have HE := Hid.mk (encode21 H.out.isJ H.out.gi)
          have hlen := encJn_length H.out.gi
          have HDJ := Hid.mk (decJn_back H.out.gi)
          go_wp2_with fail
          refine HE.out.mono ?_
          rintro e w3 ⟨v3, rfl, hO3, k3, -⟩
          have HD := Hid.mk (decode23 v3 _ hO3.reads (by omega))
          have HT3 := Hid.mk (H.out.kept0 k3)
          clear hO3 k3 HE H
          go_wp2_with fail
          refine HD.out.mono ?_
          clear HD
          rintro e w4 (⟨hno, -, -⟩ | ⟨pc, jc, hd, rfl, hJ4, k4, hp4⟩)
          · rw [HDJ.out] at hno
            cases hno
          · rw [HDJ.out] at hd
            injection hd with hd
            subst hd
            have HT4 : Hid (Two w w4 pc f J J) := by
              have T := HT3.out.kept0 k4
              exact ⟨hJ4, T.isF, T.gi, T.gj, Nat.le_trans HT3.out.kept.size hp4, T.hf, T.kept⟩
            have hJv2 : J.ver ≤ 30500 := by omega
            clear HDJ HT3 hJ4 k4 hp4 hJv
            go_wp2_with fail
            go_loopw [56] (fun i wr => ∃ k : Nat, i = .int .i64 (k : Int) ∧ k ≤ n2 ∧ ∃ J, J.ver ≤ 30500 + k * 500 ∧ Hid (Two w wr pc f J J)) (fun i _ => n2 - (intOf i).toNat)
            case atStart => exact ⟨0, rfl, by omega, J, by omega, HT4⟩
            case round =>
              clear HT4 hlen hJv2
              clear J
              obtain ⟨k, rfl, hk, J, hJv, H⟩ := hrel
              by_cases hlt2 : k < n2
              · obtain ⟨l, hl⟩ : ∃ l, l2[k]? = some l := ⟨_, List.getElem?_eq_getElem (by have := HN2.out; omega)⟩
                obtain ⟨b, o, a', c', rfl, d0, hEv, q1, q2⟩ := HI2.out.at hl
                have hl500 := HL6.out l (List.mem_of_getElem? hl)
                have hjI : (k : Int) < (n2 : Int) := by omega
                have hj0 : (0 : Int) ≤ (k : Int) := by omega
                have HC : Hid (∀ W, Kept [] w W → W.cell? ⟨b, o + k, none⟩ = some (.slice a' l.length c')) := fun W kk => kk.cell_eq d0
                have HV := Hid.mk (addR_ver J l)
                have S0 := HC.out _ H.out.kept.drew
                have HA := Hid.mk (two_theirs (H.out.kept0 (Kept.refl [] wr).drew) hEv (by omega))
                have HB : Hid (∀ W u, Two w W pc f J J → OwnsR 34 2 W u (CE l) → Calls Try.prog 12 #[.pointer (some ⟨pc, 0, none⟩), u] W fun e w' => e = .returned (Iv (addC l)) ∧ Two w w' pc f (addR J l) J) := fun W u T hO => two_addP T hO hEv.2 (by omega) (by omega)
                have HD : Hid (∀ W, Two w W pc f (addR J l) J → Calls Try.prog 14 #[.pointer (some ⟨f, 0, none⟩), .slice a' l.length c'] W fun e w' => e = .returned (Iv (addC l)) ∧ Two w w' pc f (addR J l) (addR J l)) := fun W T => two_addF T hEv (by omega) (by omega)
                clear hl hEv d0 H
                generalize l.length = m at *
                generalize addC l = ac at *
                generalize addR J l = J2 at *
                go_wp2_with fail
                go_region_held3 (fun V => V.cell? ⟨b, o + k, none⟩ = some (.slice a' m c')) (first | with_reducible exact S0 | with_reducible exact S1 | with_reducible exact S2 | with_reducible exact S3 | with_reducible exact S4) (first | (go_at_call 15; refine (two_same T3.out).mono ?_; rintro e w6 ⟨rfl, t4, -⟩; have T4 := Hid.mk t4; have S4 := HC.out _ t4.kept; clear t4) | (go_at_call 14; refine (HD.out _ T2.out).mono ?_; rintro e w5 ⟨rfl, t3⟩; have T3 := Hid.mk t3; have S3 := HC.out _ t3.kept; clear t3) | (go_at_call 12; refine (HB.out _ _ T1.out O1.out).mono ?_; rintro e w4 ⟨rfl, t2⟩; have T2 := Hid.mk t2; have S2 := HC.out _ t2.kept; clear t2) | (go_at_call 13; refine HA.out.mono ?_; rintro e w3 ⟨u3, rfl, o1, t1, -⟩; have T1 := Hid.mk t1; have O1 := Hid.mk o1; have S1 := HC.out _ t1.kept; clear t1 o1))
                clear S0 S1 S2 S3 S4 HA HB HD T1 T2 T3 O1
                have HV2 := Hid.mk (Nat.le_trans HV.out (Nat.add_le_add hJv hl500))
                clear HV
                go_wp2_with fail
                go_roundw
                case rel => exact ⟨k + 1, by go_num, by omega, J2, by have := HV2.out; omega, T4⟩
                case measure => simp [intOf]; omega
              · obtain rfl : k = n2 := by omega
                go_wp2_with fail
                go_ret
                exact ⟨rfl, H.out.kept⟩
end
end Go.Proofs.Ytbmpoboenhdnoaa
