import Derived.Test.YthlemapneangeaaV18
import Derived.Test.YthlemapneangeaaV19
import Derived.Test.YthlemapneangeaaV20
/-
  OutboxDecodes: the walk.
-/
namespace Go.Proofs.Ythlemapneangeaa
set_option maxRecDepth 100000
open Go.RowKit
set_option linter.unusedVariables false
section
variable {w0 w : World} {p pf : Nat} {o : Ob} {B : Nat}
theorem two_renc (T : Two w0 w p pf o B) : Calls Try.prog 15 #[.pointer (some ⟨pf, 0, none⟩)] w fun e w' => NewB w (encO o) e w' := by
  obtain ⟨-, ⟨v, u, ms, hF, hm⟩, -, g, -⟩ := T
  have e : (⟨o.own, o.K, ms.map ot⟩ : Ob) = o := by rw [hm]
  have := rencode15 hF (by rw [e]; exact g)
  rwa [e] at this
theorem str34 (v : Value) (l : List UInt8) (W : World) (h : Reads W v l) : (convert 34 9 v).run Try.prog W = .ok (Sv l) W := string_of 34 5 Try.underlying34 9 Try.underlying5 Try.underlying9 v l W h
set_option maxHeartbeats 8000000 in
theorem decodes_walk {v1 v2 : Value} {l1 : List Pq} {l2 : List UInt8} (hr1 : OpsIn w v1 l1) (hr2 : Reads w v2 l2) (hin : Inside w v2) (hl : l2.length ≤ 140737488355328) : Calls Try.prog 4 #[v1, v2] w fun e w' => e = .returned (.bool true) ∧ Kept [] w w' := by
  obtain ⟨a1, c1, rfl, hv1, hv2⟩ : ∃ a c, v1 = .slice a l1.length c ∧ l1.length ≤ c ∧ c ≤ 9223372036854775807 := by
    have := ReadsR.form hr1.1
    rwa [CP_length] at this
  have HR1 := Hid.mk hr1
  have HR2 := Hid.mk hr2
  have HIN := Hid.mk hin
  clear hr1 hr2 hin
  go_enter Try.func4, Try.ntmps4
  go_wp2_with fail
  refine awake9.mono ?_
  rintro e w1 ⟨rfl, k1⟩
  go_wp2_with fail
  refine (few10 (HR1.out.1.kept k1 (by simp))).mono ?_
  rintro e w2 ⟨fb, rfl, hfew, k2⟩
  have k02 := k1.trans k2 (by simp)
  cases fb with
  | false =>
    go_wp2_with fail
    refine awake9.mono ?_
    rintro e w3 ⟨rfl, k3⟩
    go_wp2_with fail
    go_ret
    exact ⟨rfl, k02.trans k3 (by simp)⟩
  | true =>
    have HF1 := Hid.mk (hfew rfl)
    clear hfew k2 k1
    go_wp2_with fail
    refine (new11 [109, 101] rfl).mono ?_
    rintro e w4 ⟨p, rfl, hB4, k4, hp⟩
    have k04 := k02.trans k4 (by simp)
    go_wp2_with fail
    refine (new12 (w0 := w) [109, 101] rfl k04.size).mono ?_
    rintro e w5 ⟨pf, rfl, hF5, k5⟩
    have k05 := k04.trans k5 (by simp)
    have T : Two w w5 p pf ⟨[109, 101], [], []⟩ 0 := ⟨⟨[], hB4.kept0 k5, rfl⟩, ⟨_, _, [], hF5, rfl⟩, by have := k02.size; omega, GoodO.new rfl, by simp⟩
    have H13 := Hid.mk (play13 (T.kept0 (Kept.refl [] w5).drew) k05.drew HR1.out HF1.out (by omega))
    clear T hB4 hF5 k05 k04 k02 k4 k5 hp
    go_wp2_with fail
    go_region_held (fun _ => True) (trivial) (first | (go_at_call 15; refine (two_renc (T6.kept0 k7)).mono ?_; rintro e W8 ⟨v8, rfl, hO8, k8, hf8⟩; have hs8 := str34 _ _ _ hO8.reads; have hs78 := str34 _ _ _ (hO7.reads.kept k8 (by simp))) | (go_at_call 14; refine (two_enc T6).mono ?_; rintro e W7 ⟨v7, rfl, hO7, k7, hf7⟩; have hs7 := str34 _ _ _ hO7.reads) | (go_at_call 13; refine H13.out.mono ?_; rintro e W6 ⟨rfl, ⟨o6, T6⟩, k06⟩))
    all_goals
      have T8 := (T6.kept0 k7).kept0 k8
      have k08 := (k06.trans k7 (by simp)).trans k8 (by simp)
      have HT8 := Hid.mk T8
      have HK8 := Hid.mk k08
      clear T6 k7 k8 hO7 hO8 hf7 hf8 hs8 hs78 hs7 k06 T8 k08 H13
      go_wp2_with fail
      refine (two_renc HT8.out).mono ?_
      rintro e w9 ⟨v9, rfl, hO9, k9, hf9⟩
      have hlen := encO_length HT8.out.good
      have H16 := Hid.mk (decode16 v9 _ hO9.reads (by omega))
      have HK9 := Hid.mk (HK8.out.trans k9 (by simp))
      have HT9 := Hid.mk (HT8.out.kept0 k9)
      clear hO9 hf9 k9 HT8 HK8
      go_wp2_with fail
      refine H16.out.mono ?_
      rintro e w10 (⟨hd, -, -⟩ | ⟨p', o8, qs8, hd, rfl, hO8, hq8, k8, hp8⟩)
      · rw [decO_back HT9.out.good] at hd
        cases hd
      · rw [decO_back HT9.out.good] at hd
        injection hd with hd
        subst hd
        have T10 := Hid.mk ((HT9.out.kept0 k8).again hO8 hq8 (by have := HK9.out.size; omega))
        have k10 := Hid.mk (HK9.out.trans k8 (by simp))
        have HD := Hid.mk (decode16 v2 l2 (HR2.out.kept k10.out (by simp)) hl)
        clear H16 hO8 hq8 k8 hp8 HT9 HK9
        go_wp2_with fail
        refine HD.out.mono ?_
        clear HD
        cases hdo : decO l2 with
        | none =>
          rintro e w11 (⟨-, rfl, k11⟩ | ⟨px, ox, qx, hd, -⟩)
          · have HE := Hid.mk (decode17 v2 l2 ((HR2.out.kept k10.out (by simp)).kept k11 (by simp)) (fun g hg => by have := HIN.out g hg; have := k10.out.size; have := k11.size; omega) hl)
            go_wp2_with fail
            refine HE.out.mono ?_
            clear HE
            rintro e w12 (⟨-, rfl, k12⟩ | ⟨py, vy, uy, oy, my, hd, -⟩)
            · have k1012 := k11.trans k12 (by simp)
              have HS := Hid.mk (two_same (T10.out.kept0 k1012))
              have KF := Hid.mk (k10.out.trans k1012 (by simp))
              clear k11 k12 k1012 T10 k10
              go_wp2_with fail
              refine HS.out.mono ?_
              rintro e w13 ⟨rfl, k13⟩
              go_wp2_with fail
              go_quiet (fail)
              go_wp2_with fail
              go_ret
              exact ⟨rfl, (KF.out.trans k13 (by simp)).drewN _⟩
            · rw [hdo] at hd
              cases hd
          · rw [hdo] at hd
            cases hd
        | some ob =>
          obtain ⟨henc, hgood⟩ := decO_fwd hdo
          rintro e w11 (⟨hd, -, -⟩ | ⟨px, ox, qx, hd, rfl, hOx, hqx, k11, hpx⟩)
          · rw [hdo] at hd
            cases hd
          · rw [hdo] at hd
            injection hd with hd
            subst hd
            have HE := Hid.mk (decode17 v2 l2 ((HR2.out.kept k10.out (by simp)).kept k11 (by simp)) (fun g hg => by have := HIN.out g hg; have := k10.out.size; have := k11.size; omega) hl)
            have HOX := Hid.mk hOx
            have HQX := Hid.mk hqx
            clear hOx
            go_wp2_with fail
            refine HE.out.mono ?_
            clear HE
            rintro e w12 (⟨hd, -, -⟩ | ⟨py, vy, uy, oy, my, hd, rfl, hFy, hmy, k12⟩)
            · rw [hdo] at hd
              cases hd
            · rw [hdo] at hd
              injection hd with hd
              subst hd
              have k1012 := k11.trans k12 (by simp)
              have HS := Hid.mk (two_same (T10.out.kept0 k1012))
              have KF := Hid.mk (k10.out.trans k1012 (by simp))
              have HOX2 := Hid.mk (HOX.out.kept0 k12)
              have HFY := Hid.mk hFy
              have HG := Hid.mk hgood
              have HENC := Hid.mk henc
              have HMY := Hid.mk hmy
              clear k11 k12 k1012 T10 k10 hFy hgood HOX hdo henc hmy hqx hpx
              go_wp2_with fail
              refine HS.out.mono ?_
              rintro e w13 ⟨rfl, k13⟩
              have kd := k13.drew
              have hOd := HOX2.out.kept0 kd
              have hFd := HFY.out.kept0 kd
              have H18 := Hid.mk (same18 hOd hFd (HQX.out.trans HMY.out.symm) (HG.out.fit HQX.out) HG.out.rise (by have := HG.out.ne; omega))
              have H14 : Hid (∀ W, Kept [] w13.drew W → Calls Try.prog 14 #[.pointer (some ⟨px, 0, none⟩)] W fun e w' => NewB W l2 e w') := fun W k => by
                have e : (⟨ob.own, ob.K, qx.map ot⟩ : Ob) = ob := by rw [HQX.out]
                have := encode14 (hOd.kept0 k) (by rw [e]; exact HG.out)
                rw [e, HENC.out] at this
                exact this
              have HB2 : Hid (∀ W, Kept [] w13.drew W → (convert 34 9 v2).run Try.prog W = .ok (Sv l2) W) := fun W k => str34 _ _ _ (HR2.out.kept ((KF.out.trans kd (by simp)).trans k (by simp)) (by simp))
              have KD := Hid.mk (KF.out.trans kd (by simp))
              clear hOd hFd kd k13 HS KF HOX2 HFY
              go_wp2_with fail
              have Sa := HB2.out _ (Kept.refl [] _)
              refine wp_region_held_drew (S := fun Wx => (convert 34 9 v2).run Try.prog Wx = .ok (Sv l2) Wx) (by kernel_rfl) Sa (fun _ => ?_)
              refine wpAnyH_take (i := 0) (v := .int .i64 0) rfl (by kernel_rfl) (by kernel_rfl) (by kernel_rfl) (fun _ _ _ h => h) (Or.inl ⟨by rfl, fun Wx hS => by have hS' : (convert 34 9 v2).run Try.prog Wx = .ok (Sv l2) Wx := hS; go_simp⟩) Sa ?_
              go_simp
              refine wpAnyH_take (i := 1) (v := .bool false) rfl (by kernel_rfl) (by kernel_rfl) (by kernel_rfl) (fun _ _ _ h => h) (Or.inl ⟨by rfl, fun Wx hS => by have hS' : (convert 34 9 v2).run Try.prog Wx = .ok (Sv l2) Wx := hS; go_simp⟩) Sa ?_
              go_simp
              refine wpAnyH_take (i := 2) (v := .bool false) rfl (by kernel_rfl) (by kernel_rfl) (by kernel_rfl) (fun _ _ _ h => h) (Or.inl ⟨by rfl, fun Wx hS => by have hS' : (convert 34 9 v2).run Try.prog Wx = .ok (Sv l2) Wx := hS; go_simp⟩) Sa ?_
              go_simp
              refine wpAnyH_take (i := 3) (v := undef) rfl (by kernel_rfl) (by kernel_rfl) (by kernel_rfl) (fun _ _ _ h => h) (Or.inr ⟨by rfl, rfl⟩) Sa ?_
              go_simp
              refine wpAnyH_take (i := 4) (v := undef) rfl (by kernel_rfl) (by kernel_rfl) (by kernel_rfl) (fun _ _ _ h => h) (Or.inr ⟨by rfl, rfl⟩) Sa ?_
              go_simp
              refine wpAnyH_take (i := 5) (v := .bool false) rfl (by kernel_rfl) (by kernel_rfl) (by kernel_rfl) (fun _ _ _ h => h) (Or.inl ⟨by rfl, fun Wx hS => by have hS' : (convert 34 9 v2).run Try.prog Wx = .ok (Sv l2) Wx := hS; go_simp⟩) Sa ?_
              go_simp
              refine wpAnyH_take (i := 6) (v := .bool false) rfl (by kernel_rfl) (by kernel_rfl) (by kernel_rfl) (fun _ _ _ h => h) (Or.inl ⟨by rfl, fun Wx hS => by have hS' : (convert 34 9 v2).run Try.prog Wx = .ok (Sv l2) Wx := hS; go_simp⟩) Sa ?_
              go_simp
              refine wpAnyH_take (i := 7) (v := .int .i64 0) rfl (by kernel_rfl) (by kernel_rfl) (by kernel_rfl) (fun _ _ _ h => h) (Or.inl ⟨by rfl, fun Wx hS => by have hS' : (convert 34 9 v2).run Try.prog Wx = .ok (Sv l2) Wx := hS; go_simp⟩) Sa ?_
              go_simp
              refine wpAnyH_take (i := 8) (v := .bool true) rfl (by kernel_rfl) (by kernel_rfl) (by kernel_rfl) (fun _ _ _ h => h) (Or.inl ⟨by rfl, fun Wx hS => by have hS' : (convert 34 9 v2).run Try.prog Wx = .ok (Sv l2) Wx := hS; go_simp⟩) Sa ?_
              go_simp
              refine wpAnyH_take (i := 9) (v := .bool true) rfl (by kernel_rfl) (by kernel_rfl) (by kernel_rfl) (fun _ _ _ h => h) (Or.inl ⟨by rfl, fun Wx hS => by have hS' : (convert 34 9 v2).run Try.prog Wx = .ok (Sv l2) Wx := hS; go_simp⟩) Sa ?_
              go_simp
              refine wpAnyH_take (i := 10) (v := Value.pointer (some ⟨px, 0, none⟩)) rfl (by kernel_rfl) (by kernel_rfl) (by kernel_rfl) (fun _ _ _ h => h) (Or.inl ⟨by rfl, fun Wx hS => by have hS' : (convert 34 9 v2).run Try.prog Wx = .ok (Sv l2) Wx := hS; go_simp⟩) Sa ?_
              go_simp
              refine wpAnyH_take (i := 11) (v := Value.pointer (some ⟨py, 0, none⟩)) rfl (by kernel_rfl) (by kernel_rfl) (by kernel_rfl) (fun _ _ _ h => h) (Or.inl ⟨by rfl, fun Wx hS => by have hS' : (convert 34 9 v2).run Try.prog Wx = .ok (Sv l2) Wx := hS; go_simp⟩) Sa ?_
              go_simp
              refine wpAnyH_ready (rs := [12]) (by kernel_rfl) (by simp) (AllReadyH.cons rfl (fun K hK => ?_) AllReadyH.nil)
              go_simp
              refine H18.out.mono ?_
              rintro e W14 ⟨rfl, k14⟩
              have Sb := HB2.out _ k14
              refine hK.out _ _ Sb (fun _ => ?_)
              clear hK K
              go_simp
              refine wpAnyH_take (i := 13) (v := .bool true) rfl (by kernel_rfl) (by kernel_rfl) (by kernel_rfl) (fun _ _ _ h => h) (Or.inl ⟨by rfl, fun Wx hS => by have hS' : (convert 34 9 v2).run Try.prog Wx = .ok (Sv l2) Wx := hS; go_simp⟩) Sb ?_
              go_simp
              refine wpAnyH_take (i := 14) (v := .bool true) rfl (by kernel_rfl) (by kernel_rfl) (by kernel_rfl) (fun _ _ _ h => h) (Or.inl ⟨by rfl, fun Wx hS => by have hS' : (convert 34 9 v2).run Try.prog Wx = .ok (Sv l2) Wx := hS; go_simp⟩) Sb ?_
              go_simp
              refine wpAnyH_take (i := 15) (v := Value.pointer (some ⟨px, 0, none⟩)) rfl (by kernel_rfl) (by kernel_rfl) (by kernel_rfl) (fun _ _ _ h => h) (Or.inl ⟨by rfl, fun Wx hS => by have hS' : (convert 34 9 v2).run Try.prog Wx = .ok (Sv l2) Wx := hS; go_simp⟩) Sb ?_
              go_simp
              refine wpAnyH_take (i := 18) (v := v2) rfl (by kernel_rfl) (by kernel_rfl) (by kernel_rfl) (fun _ _ _ h => h) (Or.inl ⟨by rfl, fun Wx hS => by have hS' : (convert 34 9 v2).run Try.prog Wx = .ok (Sv l2) Wx := hS; go_simp⟩) Sb ?_
              go_simp
              refine wpAnyH_take (i := 19) (v := Sv l2) rfl (by kernel_rfl) (by kernel_rfl) (by kernel_rfl) (fun _ _ _ h => h) (Or.inl ⟨by rfl, fun Wx hS => by have hS' : (convert 34 9 v2).run Try.prog Wx = .ok (Sv l2) Wx := hS; go_simp⟩) Sb ?_
              go_simp
              refine wpAnyH_ready (rs := [16]) (by kernel_rfl) (by simp) (AllReadyH.cons rfl (fun K hK => ?_) AllReadyH.nil)
              go_simp
              refine (H14.out _ k14).mono ?_
              rintro e W15 ⟨v15, rfl, hO15, k15, hf15⟩
              have hs15 := str34 _ _ _ hO15.reads
              have Sc := HB2.out _ (k14.trans k15 (by simp))
              refine hK.out _ _ Sc (fun _ => ?_)
              clear hK K
              go_simp
              refine wpAnyH_ready (rs := [17]) (by kernel_rfl) (by simp) (AllReadyH.cons rfl (fun K hK => ?_) AllReadyH.nil)
              go_simp
              refine hK.out _ _ Sc (fun _ => ?_)
              clear hK K
              go_simp
              refine wpAnyH_take (i := 20) (v := .bool true) rfl (by kernel_rfl) (by kernel_rfl) (by kernel_rfl) (fun _ _ _ h => h) (Or.inl ⟨by rfl, fun Wx hS => by have hS' : (convert 34 9 v2).run Try.prog Wx = .ok (Sv l2) Wx := hS; go_simp⟩) Sc ?_
              go_simp
              refine wpAnyH_take (i := 21) (v := .bool true) rfl (by kernel_rfl) (by kernel_rfl) (by kernel_rfl) (fun _ _ _ h => h) (Or.inl ⟨by rfl, fun Wx hS => by have hS' : (convert 34 9 v2).run Try.prog Wx = .ok (Sv l2) Wx := hS; go_simp⟩) Sc ?_
              go_simp
              refine wpAnyH_take (i := 22) (v := .bool true) rfl (by kernel_rfl) (by kernel_rfl) (by kernel_rfl) (fun _ _ _ h => h) (Or.inl ⟨by rfl, fun Wx hS => by have hS' : (convert 34 9 v2).run Try.prog Wx = .ok (Sv l2) Wx := hS; go_simp⟩) Sc ?_
              go_simp
              refine wpAnyH_ready (rs := [23]) (by kernel_rfl) (by simp) (AllReadyH.cons rfl (fun K hK => ?_) AllReadyH.nil)
              go_simp
              refine hK.out _ _ Sc (fun _ => ?_)
              clear hK K
              go_simp
              refine wpAnyH_done (by kernel_rfl) ?_ _
              go_wp2_with fail
              go_ret
              exact ⟨rfl, (KD.out.trans k14 (by simp)).trans k15 (by simp)⟩
end
end Go.Proofs.Ythlemapneangeaa
