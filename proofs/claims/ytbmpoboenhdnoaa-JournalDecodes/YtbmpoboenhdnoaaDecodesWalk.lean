/-
  JournalDecodes: the walk.
-/
import Derived.Test.YtbmpoboenhdnoaaCopiesWalk
import Derived.Test.YtbmpoboenhdnoaaPartsWalk
import Derived.Test.YtbmpoboenhdnoaaEr
import Derived.Test.YtbmpoboenhdnoaaDf
namespace Go.Proofs.Ytbmpoboenhdnoaa
set_option maxRecDepth 100000
open Go.RowKit
set_option linter.unusedVariables false
section
variable {w : World}
theorem two_renc {w0 w : World} {p f : Nat} {i j : Jn} (T : Two w0 w p f i j) : Calls Try.prog 22 #[.pointer (some ⟨f, 0, none⟩)] w fun e w' => NewB w (encJn j) e w' := by
  obtain ⟨u, h1, -⟩ := T.isF
  exact rencode22 h1 T.gj
set_option maxHeartbeats 8000000 in
theorem decodes_walk {v1 v2 : Value} {l1 : List (List Ep)} {l2 : List UInt8} (hI1 : EvssIn w v1 l1) (hr2 : Reads w v2 l2) (hin : Inside w v2) (hl2 : l2.length ≤ 140737488355328) : Calls Try.prog 5 #[v1, v2] w fun e w' => e = .returned (.bool true) ∧ Kept [] w w' := by
  obtain ⟨a1, c1, rfl, hc11, hc12⟩ := hI1.form
  have HI1 := Hid.mk hI1
  have HR2 := Hid.mk hr2
  have HIN := Hid.mk hin
  clear hI1 hr2 hin
  generalize hn1 : l1.length = n1 at *
  have HN1 := Hid.mk hn1
  clear hn1
  go_enter Try.func5, Try.ntmps5
  go_wp2_with fail
  refine (awake9 (w := w)).mono ?_
  rintro e w1 ⟨rfl, k1⟩
  have HK1 := Hid.mk k1
  have HFE := Hid.mk (few10 (HI1.out.kept k1))
  clear k1
  go_wp2_with fail
  refine HFE.out.mono ?_
  rintro e w1' ⟨⟨b, rfl, hfew⟩, rfl⟩
  clear HFE
  have HFW := Hid.mk hfew
  clear hfew
  cases b with
  | false =>
    go_wp2_with fail
    refine (awake9 (w := w1)).mono ?_
    rintro e w2 ⟨rfl, k2⟩
    go_wp2_with fail
    go_ret
    exact ⟨rfl, HK1.out.trans k2 (by simp)⟩
  | true =>
    obtain ⟨hn61, hl5⟩ := HFW.out rfl
    rw [HN1.out] at hn61
    have HL5 := Hid.mk hl5
    clear hl5 HFW
    go_wp2_with fail
    refine (new11 (w := w1)).mono ?_
    rintro e w2 ⟨p, rfl, hJ2, k2, hp2⟩
    have T3 := two_new (w0 := w) (HK1.out.trans k2 (by simp)) hJ2 GoodJ.new (Nat.le_trans HK1.out.size hp2)
    rw [zeroC32] at T3
    have HT4 := Hid.mk T3
    clear T3 hJ2 k2 hp2
    go_wp2_with fail
    generalize w2.heap.size = f at *
    go_loopw [27] (fun i wr => ∃ k : Nat, i = .int .i64 (k : Int) ∧ k ≤ n1 ∧ ∃ J, J.ver ≤ k * 500 ∧ Hid (Two w wr p f J J)) (fun i _ => n1 - (intOf i).toNat)
    case atStart => exact ⟨0, rfl, by omega, newJ, by simp [newJ], HT4⟩
    case round =>
      obtain ⟨k, rfl, hk, J, hJv, H⟩ := hrel
      clear HT4
      by_cases hlt : k < n1
      · obtain ⟨l, hl⟩ : ∃ l, l1[k]? = some l := ⟨_, List.getElem?_eq_getElem (by have := HN1.out; omega)⟩
        obtain ⟨b, o, a', c', rfl, d0, hEv, q1, q2⟩ := HI1.out.at hl
        have hl500 := HL5.out l (List.mem_of_getElem? hl)
        have hjI : (k : Int) < (n1 : Int) := by omega
        have HC : Hid (∀ W, Kept [] w W → W.cell? ⟨b, o + k, none⟩ = some (.slice a' l.length c')) := fun W kk => kk.cell_eq d0
        have HV := Hid.mk (addR_ver J l)
        have S0 := HC.out _ H.out.kept
        have HA := Hid.mk (two_theirs H.out hEv (by omega))
        have HB : Hid (∀ W u, Two w W p f J J → OwnsR 34 2 W u (CE l) → Calls Try.prog 12 #[.pointer (some ⟨p, 0, none⟩), u] W fun e w' => e = .returned (Iv (addC l)) ∧ Two w w' p f (addR J l) J) := fun W u T hO => two_addP T hO hEv.2 (by omega) (by omega)
        have HD : Hid (∀ W, Two w W p f (addR J l) J → Calls Try.prog 14 #[.pointer (some ⟨f, 0, none⟩), .slice a' l.length c'] W fun e w' => e = .returned (Iv (addC l)) ∧ Two w w' p f (addR J l) (addR J l)) := fun W T => two_addF T hEv (by omega) (by omega)
        clear hl hEv d0 H
        generalize l.length = m at *
        generalize addC l = ac at *
        generalize addR J l = J2 at *
        go_wp2_with fail
        refine HA.out.mono ?_
        rintro e w3 ⟨u3, rfl, o1, t1, -⟩
        have HB1 := Hid.mk (HB.out _ _ t1 o1)
        clear t1 o1 HA HB S0
        go_wp2_with fail
        refine HB1.out.mono ?_
        rintro e w4 ⟨rfl, t2⟩
        have HD1 := Hid.mk (HD.out _ t2)
        have S2 := HC.out _ t2.kept
        clear t2 HB1 HD
        go_wp2_with fail
        refine HD1.out.mono ?_
        rintro e w5 ⟨rfl, t3⟩
        have T3 := Hid.mk t3
        have HV2 := Hid.mk (Nat.le_trans HV.out (Nat.add_le_add hJv hl500))
        clear t3 HD1 S2 HV
        go_wp2_with fail
        go_roundw
        case rel => exact ⟨k + 1, by go_num, by omega, J2, by have := HV2.out; omega, T3⟩
        case measure => simp [intOf]; omega
      · obtain rfl : k = n1 := by omega
        have hlen := encJn_length H.out.gi
        have HDJ := Hid.mk (decJn_back H.out.gi)
        have HE1 : Hid (∀ W, Kept [] wr W → Calls Try.prog 21 #[.pointer (some ⟨p, 0, none⟩)] W fun e w' => NewB W (encJn J) e w') := fun W kk => encode21 (H.out.kept0 kk).isJ H.out.gi
        have HE2 : Hid (∀ W, Kept [] wr W → Calls Try.prog 22 #[.pointer (some ⟨f, 0, none⟩)] W fun e w' => NewB W (encJn J) e w') := fun W kk => two_renc (H.out.kept0 kk)
        have K0 := Hid.mk (Kept.refl [] wr).drew
        have HT := H
        clear H
        generalize hX : encJn J = X at *
        have HX := Hid.mk hX
        clear hX
        go_wp2_with fail
        go_region_held (fun _ => True) (trivial) (first | (go_at_call 22; (with_reducible refine (HE2.out _ K1.out).mono ?_); rintro e W2 ⟨v4, rfl, hO2, k2, -⟩; have K2 := Hid.mk (K1.out.trans k2 (by simp)); have hs2 := str52 _ _ _ hO2.reads; have hs12 := str52 _ _ _ (hO1.out.reads.kept k2 (by simp)); clear k2 hO2) | (go_at_call 21; (with_reducible refine (HE1.out _ K0.out).mono ?_); rintro e W1 ⟨v3, rfl, ho1, k1, -⟩; have K1 := Hid.mk (K0.out.trans k1 (by simp)); have hO1 := Hid.mk ho1; have hs1 := str52 _ _ _ ho1.reads; clear k1 ho1))
        all_goals
          have HT2 := Hid.mk (HT.out.kept0 K2.out)
          have HE3 := Hid.mk (HE2.out _ K2.out)
          clear hs1 hs2 hs12 HE1 HE2 K0 K1 K2 hO1
          go_wp2_with fail
          refine HE3.out.mono ?_
          rintro e w4 ⟨v4, rfl, hO4, k4, -⟩
          have HD := Hid.mk (decode23 v4 _ hO4.reads (by omega))
          have HT4 := Hid.mk (HT2.out.kept0 k4)
          clear hO4 k4 HE3 HT2
          go_wp2_with fail
          refine HD.out.mono ?_
          clear HD
          rintro e w5 (⟨hno, -, -⟩ | ⟨pc, jc, hd, rfl, hJ5, k5, hp5⟩)
          · rw [HDJ.out] at hno
            cases hno
          · rw [HDJ.out] at hd
            injection hd with hd
            subst hd
            have HT5 : Hid (Two w w5 pc f J J) := by
              have T := HT4.out.kept0 k5
              exact ⟨hJ5, T.isF, T.gi, T.gj, Nat.le_trans HT4.out.kept.size hp5, T.hf, T.kept⟩
            clear hJ5 k5 hp5 HT4 HDJ
            have HD2 := Hid.mk (decode23 v2 l2 (HR2.out.kept HT5.out.kept (by simp)) hl2)
            go_wp2_with fail
            refine HD2.out.mono ?_
            clear HD2
            cases hdo : decJn l2 with
            | none =>
              rintro e w6 (⟨-, rfl, k6⟩ | ⟨px, jx, hd, -⟩)
              · have HD3 := Hid.mk (rdecode24 v2 l2 ((HR2.out.kept HT5.out.kept (by simp)).kept k6 (by simp)) (fun g hg => by have := HIN.out g hg; have := HT5.out.kept.size; have := k6.size; omega) hl2)
                go_wp2_with fail
                refine HD3.out.mono ?_
                clear HD3
                rintro e w7 (⟨-, rfl, k7⟩ | ⟨py, jy, hd, -⟩)
                · have HS := Hid.mk (two_same ((HT5.out.kept0 k6).kept0 k7))
                  clear k6 k7
                  go_wp2_with fail
                  refine HS.out.mono ?_
                  rintro e w8 ⟨rfl, T8, -⟩
                  have HKW := Hid.mk T8.kept
                  clear T8 HS
                  go_wp2_with fail
                  go_quiet (fail)
                  have HK := Hid.mk (HKW.out.trans ((Kept.refl [] w8).drewN nq) (by simp))
                  generalize w8.drewN nq = w19 at HK ⊢
                  go_wp2_with fail
                  go_ret
                  exact ⟨rfl, HK.out⟩
                · rw [hdo] at hd
                  cases hd
              · rw [hdo] at hd
                cases hd
            | some jb =>
              obtain ⟨henc, hgood⟩ := decJn_fwd hdo
              rintro e w6 (⟨hd, -, -⟩ | ⟨px, jx, hd, rfl, hJx, k6, hpx⟩)
              · rw [hdo] at hd
                cases hd
              rw [hdo] at hd
              injection hd with hd
              subst hd
              have HD3 := Hid.mk (rdecode24 v2 l2 ((HR2.out.kept HT5.out.kept (by simp)).kept k6 (by simp)) (fun g hg => by have := HIN.out g hg; have := HT5.out.kept.size; have := k6.size; omega) hl2)
              have HJX := Hid.mk hJx
              have HT6 := Hid.mk (HT5.out.kept0 k6)
              clear hJx k6 HT5
              go_wp2_with fail
              refine HD3.out.mono ?_
              clear HD3
              rintro e w7' (⟨hd, -, -⟩ | ⟨py, jy, hd, rfl, hFy, k7, -⟩)
              · rw [hdo] at hd
                cases hd
              rw [hdo] at hd
              injection hd with hd
              subst hd
              obtain ⟨uy, hFy, -⟩ := hFy
              have HS := Hid.mk (two_same (HT6.out.kept0 k7))
              have HJX7 := Hid.mk (HJX.out.kept0 k7)
              have HFY := Hid.mk hFy
              clear k7 hFy HJX HT6
              go_wp2_with fail
              refine HS.out.mono ?_
              rintro e w7 ⟨rfl, T8, k8⟩
              have HKW := Hid.mk T8.kept
              have kd := k8.drew
              have hJd := HJX7.out.kept0 kd
              have hFd := HFY.out.kept0 kd
              have H15 := Hid.mk (same15 hJd hFd hgood.reg)
              have H21 : Hid (∀ W, Kept [] w7.drew W → Calls Try.prog 21 #[.pointer (some ⟨px, 0, none⟩)] W fun e w' => NewB W l2 e w') := fun W k => by
                have := encode21 (hJd.kept0 k) hgood
                rw [henc] at this
                exact this
              have HB2 : Hid (∀ W, Kept [] w7.drew W → (convert 52 9 v2).run Try.prog W = .ok (.string ⟨l2.toArray⟩) W) := fun W k => str52 _ _ _ (HR2.out.kept (HKW.out.trans ((Kept.refl [] w7).drew.trans k (by simp)) (by simp)) (by simp))
              clear HS T8 k8 kd hJd hFd HJX7 HFY hpx hdo henc hgood
              go_wp2_with fail
              have Sa := HB2.out _ (Kept.refl [] _)
              refine wp_region_held_drew (S := fun Wx => (convert 52 9 v2).run Try.prog Wx = .ok (.string ⟨l2.toArray⟩) Wx) (by kernel_rfl) Sa (fun _ => ?_)
              refine wpAnyH_take (i := 0) (v := .int .i64 0) rfl (by kernel_rfl) (by kernel_rfl) (by kernel_rfl) (fun _ _ _ h => h) (Or.inl ⟨by rfl, fun Wx hS => by have hS' : (convert 52 9 v2).run Try.prog Wx = .ok (.string ⟨l2.toArray⟩) Wx := hS; go_simp⟩) Sa ?_
              go_simp
              refine wpAnyH_take (i := 1) (v := .bool false) rfl (by kernel_rfl) (by kernel_rfl) (by kernel_rfl) (fun _ _ _ h => h) (Or.inl ⟨by rfl, fun Wx hS => by have hS' : (convert 52 9 v2).run Try.prog Wx = .ok (.string ⟨l2.toArray⟩) Wx := hS; go_simp⟩) Sa ?_
              go_simp
              refine wpAnyH_take (i := 2) (v := .bool false) rfl (by kernel_rfl) (by kernel_rfl) (by kernel_rfl) (fun _ _ _ h => h) (Or.inl ⟨by rfl, fun Wx hS => by have hS' : (convert 52 9 v2).run Try.prog Wx = .ok (.string ⟨l2.toArray⟩) Wx := hS; go_simp⟩) Sa ?_
              go_simp
              refine wpAnyH_take (i := 3) (v := undef) rfl (by kernel_rfl) (by kernel_rfl) (by kernel_rfl) (fun _ _ _ h => h) (Or.inr ⟨by rfl, rfl⟩) Sa ?_
              go_simp
              refine wpAnyH_take (i := 4) (v := undef) rfl (by kernel_rfl) (by kernel_rfl) (by kernel_rfl) (fun _ _ _ h => h) (Or.inr ⟨by rfl, rfl⟩) Sa ?_
              go_simp
              refine wpAnyH_take (i := 5) (v := .bool false) rfl (by kernel_rfl) (by kernel_rfl) (by kernel_rfl) (fun _ _ _ h => h) (Or.inl ⟨by rfl, fun Wx hS => by have hS' : (convert 52 9 v2).run Try.prog Wx = .ok (.string ⟨l2.toArray⟩) Wx := hS; go_simp⟩) Sa ?_
              go_simp
              refine wpAnyH_take (i := 6) (v := .bool false) rfl (by kernel_rfl) (by kernel_rfl) (by kernel_rfl) (fun _ _ _ h => h) (Or.inl ⟨by rfl, fun Wx hS => by have hS' : (convert 52 9 v2).run Try.prog Wx = .ok (.string ⟨l2.toArray⟩) Wx := hS; go_simp⟩) Sa ?_
              go_simp
              refine wpAnyH_take (i := 7) (v := .int .i64 0) rfl (by kernel_rfl) (by kernel_rfl) (by kernel_rfl) (fun _ _ _ h => h) (Or.inl ⟨by rfl, fun Wx hS => by have hS' : (convert 52 9 v2).run Try.prog Wx = .ok (.string ⟨l2.toArray⟩) Wx := hS; go_simp⟩) Sa ?_
              go_simp
              refine wpAnyH_take (i := 8) (v := .bool true) rfl (by kernel_rfl) (by kernel_rfl) (by kernel_rfl) (fun _ _ _ h => h) (Or.inl ⟨by rfl, fun Wx hS => by have hS' : (convert 52 9 v2).run Try.prog Wx = .ok (.string ⟨l2.toArray⟩) Wx := hS; go_simp⟩) Sa ?_
              go_simp
              refine wpAnyH_take (i := 9) (v := .bool true) rfl (by kernel_rfl) (by kernel_rfl) (by kernel_rfl) (fun _ _ _ h => h) (Or.inl ⟨by rfl, fun Wx hS => by have hS' : (convert 52 9 v2).run Try.prog Wx = .ok (.string ⟨l2.toArray⟩) Wx := hS; go_simp⟩) Sa ?_
              go_simp
              refine wpAnyH_take (i := 10) (v := Value.pointer (some ⟨px, 0, none⟩)) rfl (by kernel_rfl) (by kernel_rfl) (by kernel_rfl) (fun _ _ _ h => h) (Or.inl ⟨by rfl, fun Wx hS => by have hS' : (convert 52 9 v2).run Try.prog Wx = .ok (.string ⟨l2.toArray⟩) Wx := hS; go_simp⟩) Sa ?_
              go_simp
              refine wpAnyH_take (i := 11) (v := Value.pointer (some ⟨py, 0, none⟩)) rfl (by kernel_rfl) (by kernel_rfl) (by kernel_rfl) (fun _ _ _ h => h) (Or.inl ⟨by rfl, fun Wx hS => by have hS' : (convert 52 9 v2).run Try.prog Wx = .ok (.string ⟨l2.toArray⟩) Wx := hS; go_simp⟩) Sa ?_
              go_simp
              refine wpAnyH_ready (rs := [12]) (by kernel_rfl) (by simp) (AllReadyH.cons rfl (fun K hK => ?_) AllReadyH.nil)
              go_simp
              refine H15.out.mono ?_
              rintro e W14 ⟨rfl, k14⟩
              have Sb := HB2.out _ k14
              refine hK.out _ _ Sb (fun _ => ?_)
              clear hK K
              go_simp
              refine wpAnyH_take (i := 13) (v := .bool true) rfl (by kernel_rfl) (by kernel_rfl) (by kernel_rfl) (fun _ _ _ h => h) (Or.inl ⟨by rfl, fun Wx hS => by have hS' : (convert 52 9 v2).run Try.prog Wx = .ok (.string ⟨l2.toArray⟩) Wx := hS; go_simp⟩) Sb ?_
              go_simp
              refine wpAnyH_take (i := 14) (v := .bool true) rfl (by kernel_rfl) (by kernel_rfl) (by kernel_rfl) (fun _ _ _ h => h) (Or.inl ⟨by rfl, fun Wx hS => by have hS' : (convert 52 9 v2).run Try.prog Wx = .ok (.string ⟨l2.toArray⟩) Wx := hS; go_simp⟩) Sb ?_
              go_simp
              refine wpAnyH_take (i := 15) (v := Value.pointer (some ⟨px, 0, none⟩)) rfl (by kernel_rfl) (by kernel_rfl) (by kernel_rfl) (fun _ _ _ h => h) (Or.inl ⟨by rfl, fun Wx hS => by have hS' : (convert 52 9 v2).run Try.prog Wx = .ok (.string ⟨l2.toArray⟩) Wx := hS; go_simp⟩) Sb ?_
              go_simp
              refine wpAnyH_take (i := 18) (v := v2) rfl (by kernel_rfl) (by kernel_rfl) (by kernel_rfl) (fun _ _ _ h => h) (Or.inl ⟨by rfl, fun Wx hS => by have hS' : (convert 52 9 v2).run Try.prog Wx = .ok (.string ⟨l2.toArray⟩) Wx := hS; go_simp⟩) Sb ?_
              go_simp
              refine wpAnyH_take (i := 19) (v := .string ⟨l2.toArray⟩) rfl (by kernel_rfl) (by kernel_rfl) (by kernel_rfl) (fun _ _ _ h => h) (Or.inl ⟨by rfl, fun Wx hS => by have hS' : (convert 52 9 v2).run Try.prog Wx = .ok (.string ⟨l2.toArray⟩) Wx := hS; go_simp⟩) Sb ?_
              go_simp
              refine wpAnyH_ready (rs := [16]) (by kernel_rfl) (by simp) (AllReadyH.cons rfl (fun K hK => ?_) AllReadyH.nil)
              go_simp
              refine (H21.out _ k14).mono ?_
              rintro e W15 ⟨v15, rfl, hO15, k15, -⟩
              have hs15 := str52 _ _ _ hO15.reads
              have Sc := HB2.out _ (k14.trans k15 (by simp))
              refine hK.out _ _ Sc (fun _ => ?_)
              clear hK K
              go_simp
              refine wpAnyH_ready (rs := [17]) (by kernel_rfl) (by simp) (AllReadyH.cons rfl (fun K hK => ?_) AllReadyH.nil)
              go_simp
              refine hK.out _ _ Sc (fun _ => ?_)
              clear hK K
              go_simp
              refine wpAnyH_take (i := 20) (v := .bool true) rfl (by kernel_rfl) (by kernel_rfl) (by kernel_rfl) (fun _ _ _ h => h) (Or.inl ⟨by rfl, fun Wx hS => by have hS' : (convert 52 9 v2).run Try.prog Wx = .ok (.string ⟨l2.toArray⟩) Wx := hS; go_simp⟩) Sc ?_
              go_simp
              refine wpAnyH_take (i := 21) (v := .bool true) rfl (by kernel_rfl) (by kernel_rfl) (by kernel_rfl) (fun _ _ _ h => h) (Or.inl ⟨by rfl, fun Wx hS => by have hS' : (convert 52 9 v2).run Try.prog Wx = .ok (.string ⟨l2.toArray⟩) Wx := hS; go_simp⟩) Sc ?_
              go_simp
              refine wpAnyH_take (i := 22) (v := .bool true) rfl (by kernel_rfl) (by kernel_rfl) (by kernel_rfl) (fun _ _ _ h => h) (Or.inl ⟨by rfl, fun Wx hS => by have hS' : (convert 52 9 v2).run Try.prog Wx = .ok (.string ⟨l2.toArray⟩) Wx := hS; go_simp⟩) Sc ?_
              go_simp
              refine wpAnyH_take (i := 23) (v := .bool true) rfl (by kernel_rfl) (by kernel_rfl) (by kernel_rfl) (fun _ _ _ h => h) (Or.inl ⟨by rfl, fun Wx hS => by have hS' : (convert 52 9 v2).run Try.prog Wx = .ok (.string ⟨l2.toArray⟩) Wx := hS; go_simp⟩) Sc ?_
              go_simp
              refine wpAnyH_done (by kernel_rfl) ?_ _
              have HK := Hid.mk (HKW.out.trans ((Kept.refl [] w7).drew.trans (k14.trans k15 (by simp)) (by simp)) (by simp))
              clear hs15 Sa Sb Sc hO15 k14 k15 HB2 H21 H15
              go_wp2_with fail
              go_ret
              exact ⟨rfl, HK.out⟩
end
end Go.Proofs.Ytbmpoboenhdnoaa
