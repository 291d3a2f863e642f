/-
  RemindDecodes: the walk.
-/
import Derived.Test.YtelmppfacgdfbaaPl
import Derived.Test.YtelmppfacgdfbaaEr
import Derived.Test.YtelmppfacgdfbaaDf
namespace Go.Proofs.Ytelmppfacgdfbaa
set_option maxRecDepth 100000
open Go.RowKit Go.Shelf
set_option linter.unusedVariables false
section
variable {w0 w : World} {p f : Nat} {Q : List Rm}
theorem two_enc {B : List Rm} (T : Two w0 w p f Q B) : Calls Try.prog 12 #[.pointer (some ⟨p, 0, none⟩)] w fun e w' => NewB w (encQ Q) e w' := encode12 T.isQ T.gA
theorem two_renc {A : List Rm} (T : Two w0 w p f A Q) : Calls Try.prog 13 #[.pointer (some ⟨f, 0, none⟩)] w fun e w' => NewB w (encQ Q) e w' := rencode13 T.hasF T.gB
theorem str37 (v : Value) (l : List UInt8) (W : World) (h : Reads W v l) : (convert 37 9 v).run Try.prog W = .ok (Sv l) W := string_of 37 5 Try.underlying37 9 Try.underlying5 Try.underlying9 v l W h
theorem encQ_length (h : GoodQ Q) : (encQ Q).length ≤ 8009 := by
  have h1 := encRs_length h.ok
  have h2 := enc_length Q.length
  have h3 := h.len
  unfold encQ
  rw [List.length_append]
  omega
set_option maxHeartbeats 8000000 in
theorem decodes_walk {v1 v2 v3 : Value} {l1 l2 : List Pq} {l3 : List UInt8} (hr1 : OpsIn w v1 l1) (hr2 : OpsIn w v2 l2) (hr3 : Reads w v3 l3) (hin : Inside w v3) (hl : l3.length ≤ 140737488355328) : Calls Try.prog 4 #[v1, v2, v3] w fun e w' => e = .returned (.bool true) ∧ Kept [] w w' := by
  obtain ⟨a1, c1, rfl, -⟩ := ReadsR.form hr1.1
  obtain ⟨a2, c2, rfl, -⟩ := ReadsR.form hr2.1
  rw [CP_length] at hr1 hr2 ⊢
  rw [CP_length]
  have HR1 := Hid.mk hr1
  have HR2 := Hid.mk hr2
  have HR3 := Hid.mk hr3
  have HIN := Hid.mk hin
  clear hr1 hr2 hr3 hin
  generalize l1.length = n1 at *
  generalize l2.length = n2 at *
  go_enter Try.func4, Try.ntmps4
  go_wp2_with fail
  refine awake9.mono ?_
  rintro e w1 ⟨rfl, k1⟩
  go_wp2_with fail
  refine (one_new (w0 := w) k1).mono ?_
  rintro e w2 ⟨p, rfl, T2⟩
  have T3 := two_new T2.kept T2.isQ T2.hp
  obtain ⟨f, hf⟩ : ∃ f, w2.heap.size = f := ⟨_, rfl⟩
  have EF := Hid.mk hf
  rw [hf] at T3
  obtain ⟨W3, e3⟩ : ∃ W3, w2.alloc (.cells #[.slice none 0 0] 35) = W3 := ⟨_, rfl⟩
  have E3 := Hid.mk e3
  rw [e3] at T3
  have H11 := Hid.mk (play11 (T3.kept0 (Kept.refl [] W3).drew) HR1.out)
  clear T2 T3 k1 hf e3
  go_wp2_with fail
  rw [E3.out, EF.out]
  go_region_held (fun _ => True) (trivial) (first | (go_at_call 13; refine (two_renc (T6.kept0 k7)).mono ?_; rintro e W8 ⟨v8, rfl, hO8, k8, hf8⟩; have hs8 := str37 _ _ _ hO8.reads; have hs78 := str37 _ _ _ (hO7.reads.kept k8 (by simp))) | (go_at_call 12; refine (two_enc T6).mono ?_; rintro e W7 ⟨v7, rfl, hO7, k7, hf7⟩; have hs7 := str37 _ _ _ hO7.reads) | (go_at_call 11; refine H11.out.mono ?_; rintro e W6 ⟨rfl, Q6, T6⟩))
  all_goals
    have HT8 := Hid.mk ((T6.kept0 k7).kept0 k8)
    clear T6 k7 k8 hO7 hO8 hf7 hf8 hs8 hs78 hs7 H11
    have HD := Hid.mk (decode14 v3 l3 (HR3.out.kept HT8.out.kept (by simp)) hl)
    go_wp2_with fail
    refine HD.out.mono ?_
    clear HD
    cases hdo : decQ l3 with
    | none =>
      rintro e w11 (⟨-, rfl, k11⟩ | ⟨px, Qx, hd, -⟩)
      · have HE := Hid.mk (rdecode15 v3 l3 ((HR3.out.kept HT8.out.kept (by simp)).kept k11 (by simp)) (fun g hg => by have := HIN.out g hg; have := HT8.out.kept.size; have := k11.size; omega) hl)
        go_wp2_with fail
        refine HE.out.mono ?_
        clear HE
        rintro e w12 (⟨-, rfl, k12⟩ | ⟨py, Qy, hd, -⟩)
        · have TT0 := (HT8.out.kept0 k11).kept0 k12
          have HT := Hid.mk TT0
          clear k11 k12 HT8 TT0
          go_wp2_with fail
          go_quiet (fail)
          have TT := Hid.mk (HT.out.kept0 ((Kept.refl [] w12).drewN nq))
          generalize w12.drewN nq = w19 at TT ⊢
          have HE1 := Hid.mk (two_enc TT.out)
          have hlen := encQ_length TT.out.gA
          go_wp2_with fail
          refine HE1.out.mono ?_
          rintro e w20 ⟨v20, rfl, hO20, k20, hf20⟩
          have HD1 := Hid.mk (decode14 v20 _ hO20.reads (by omega))
          have T20 := Hid.mk (TT.out.kept0 k20)
          clear hO20 hf20 k20 HE1
          go_wp2_with fail
          refine HD1.out.mono ?_
          rintro e w21 (⟨hd, -, -⟩ | ⟨p', Q', hd, rfl, hB', k21, hp'⟩)
          · rw [decQ_back T20.out.gA] at hd
            cases hd
          · rw [decQ_back T20.out.gA] at hd
            injection hd with hd
            subst hd
            have T21 : Two w w21 p' f Q6 Q6 := ⟨hB', T20.out.hasF.kept0 k21, by have := T20.out.kept.size; omega, T20.out.hf, T20.out.gA, T20.out.gB, T20.out.kept.trans k21 (by simp)⟩
            have HP2 := Hid.mk (play11 T21 HR2.out)
            clear hB' k21 hp' HD1 T20 T21
            go_wp2_with fail
            refine HP2.out.mono ?_
            rintro e w22 ⟨rfl, Q22, T22⟩
            have HK := Hid.mk T22.kept
            clear T22 HP2
            go_wp2_with fail
            go_ret
            exact ⟨rfl, HK.out⟩
        · rw [hdo] at hd
          cases hd
      · rw [hdo] at hd
        cases hd
    | some Qb =>
      obtain ⟨henc, hgood⟩ := decQ_fwd hdo
      rintro e w11 (⟨hd, -, -⟩ | ⟨px, Qx, hd, rfl, hBx, k11, hpx⟩)
      · rw [hdo] at hd
        cases hd
      · rw [hdo] at hd
        injection hd with hd
        subst hd
        have HE := Hid.mk (rdecode15 v3 l3 ((HR3.out.kept HT8.out.kept (by simp)).kept k11 (by simp)) (fun g hg => by have := HIN.out g hg; have := HT8.out.kept.size; have := k11.size; omega) hl)
        have HBX := Hid.mk hBx
        clear hBx
        go_wp2_with fail
        refine HE.out.mono ?_
        clear HE
        rintro e w12 (⟨hd, -, -⟩ | ⟨py, Qy, hd, rfl, hFy, k12, -⟩)
        · rw [hdo] at hd
          cases hd
        · rw [hdo] at hd
          injection hd with hd
          subst hd
          have HT := Hid.mk ((HT8.out.kept0 k11).kept0 k12)
          have kd := (Kept.refl [] w12).drew
          have hBd := (HBX.out.kept0 k12).kept0 kd
          have hFd := hFy.kept0 kd
          have H16 := Hid.mk (same16 hBd hFd hgood)
          have H12 : Hid (∀ W, Kept [] w12.drew W → Calls Try.prog 12 #[.pointer (some ⟨px, 0, none⟩)] W fun e w' => NewB W l3 e w') := fun W k => by
            have := encode12 (hBd.kept0 k) hgood
            rw [henc] at this
            exact this
          have HB2 : Hid (∀ W, Kept [] w12.drew W → (convert 37 9 v3).run Try.prog W = .ok (Sv l3) W) := fun W k => str37 _ _ _ (HR3.out.kept ((HT.out.kept.trans kd (by simp)).trans k (by simp)) (by simp))
          clear hBd hFd hFy kd k11 k12 hpx HBX HT8 hdo henc hgood
          go_wp2_with fail
          have Sa := HB2.out _ (Kept.refl [] _)
          refine wp_region_held_drew (S := fun Wx => (convert 37 9 v3).run Try.prog Wx = .ok (Sv l3) Wx) (by kernel_rfl) Sa (fun _ => ?_)
          refine wpAnyH_take (i := 0) (v := .int .i64 0) rfl (by kernel_rfl) (by kernel_rfl) (by kernel_rfl) (fun _ _ _ h => h) (Or.inl ⟨by rfl, fun Wx hS => by have hS' : (convert 37 9 v3).run Try.prog Wx = .ok (Sv l3) Wx := hS; go_simp⟩) Sa ?_
          go_simp
          refine wpAnyH_take (i := 1) (v := .int .i64 0) rfl (by kernel_rfl) (by kernel_rfl) (by kernel_rfl) (fun _ _ _ h => h) (Or.inl ⟨by rfl, fun Wx hS => by have hS' : (convert 37 9 v3).run Try.prog Wx = .ok (Sv l3) Wx := hS; go_simp⟩) Sa ?_
          go_simp
          refine wpAnyH_take (i := 2) (v := .bool false) rfl (by kernel_rfl) (by kernel_rfl) (by kernel_rfl) (fun _ _ _ h => h) (Or.inl ⟨by rfl, fun Wx hS => by have hS' : (convert 37 9 v3).run Try.prog Wx = .ok (Sv l3) Wx := hS; go_simp⟩) Sa ?_
          go_simp
          refine wpAnyH_take (i := 3) (v := .bool false) rfl (by kernel_rfl) (by kernel_rfl) (by kernel_rfl) (fun _ _ _ h => h) (Or.inl ⟨by rfl, fun Wx hS => by have hS' : (convert 37 9 v3).run Try.prog Wx = .ok (Sv l3) Wx := hS; go_simp⟩) Sa ?_
          go_simp
          refine wpAnyH_take (i := 4) (v := .int .i64 0) rfl (by kernel_rfl) (by kernel_rfl) (by kernel_rfl) (fun _ _ _ h => h) (Or.inl ⟨by rfl, fun Wx hS => by have hS' : (convert 37 9 v3).run Try.prog Wx = .ok (Sv l3) Wx := hS; go_simp⟩) Sa ?_
          go_simp
          refine wpAnyH_take (i := 5) (v := .bool false) rfl (by kernel_rfl) (by kernel_rfl) (by kernel_rfl) (fun _ _ _ h => h) (Or.inl ⟨by rfl, fun Wx hS => by have hS' : (convert 37 9 v3).run Try.prog Wx = .ok (Sv l3) Wx := hS; go_simp⟩) Sa ?_
          go_simp
          refine wpAnyH_take (i := 6) (v := .bool false) rfl (by kernel_rfl) (by kernel_rfl) (by kernel_rfl) (fun _ _ _ h => h) (Or.inl ⟨by rfl, fun Wx hS => by have hS' : (convert 37 9 v3).run Try.prog Wx = .ok (Sv l3) Wx := hS; go_simp⟩) Sa ?_
          go_simp
          refine wpAnyH_take (i := 7) (v := undef) rfl (by kernel_rfl) (by kernel_rfl) (by kernel_rfl) (fun _ _ _ h => h) (Or.inr ⟨by rfl, rfl⟩) Sa ?_
          go_simp
          refine wpAnyH_take (i := 8) (v := undef) rfl (by kernel_rfl) (by kernel_rfl) (by kernel_rfl) (fun _ _ _ h => h) (Or.inr ⟨by rfl, rfl⟩) Sa ?_
          go_simp
          refine wpAnyH_take (i := 9) (v := .bool false) rfl (by kernel_rfl) (by kernel_rfl) (by kernel_rfl) (fun _ _ _ h => h) (Or.inl ⟨by rfl, fun Wx hS => by have hS' : (convert 37 9 v3).run Try.prog Wx = .ok (Sv l3) Wx := hS; go_simp⟩) Sa ?_
          go_simp
          refine wpAnyH_take (i := 10) (v := .bool false) rfl (by kernel_rfl) (by kernel_rfl) (by kernel_rfl) (fun _ _ _ h => h) (Or.inl ⟨by rfl, fun Wx hS => by have hS' : (convert 37 9 v3).run Try.prog Wx = .ok (Sv l3) Wx := hS; go_simp⟩) Sa ?_
          go_simp
          refine wpAnyH_take (i := 11) (v := .bool false) rfl (by kernel_rfl) (by kernel_rfl) (by kernel_rfl) (fun _ _ _ h => h) (Or.inl ⟨by rfl, fun Wx hS => by have hS' : (convert 37 9 v3).run Try.prog Wx = .ok (Sv l3) Wx := hS; go_simp⟩) Sa ?_
          go_simp
          refine wpAnyH_take (i := 12) (v := .int .i64 0) rfl (by kernel_rfl) (by kernel_rfl) (by kernel_rfl) (fun _ _ _ h => h) (Or.inl ⟨by rfl, fun Wx hS => by have hS' : (convert 37 9 v3).run Try.prog Wx = .ok (Sv l3) Wx := hS; go_simp⟩) Sa ?_
          go_simp
          refine wpAnyH_take (i := 13) (v := .bool true) rfl (by kernel_rfl) (by kernel_rfl) (by kernel_rfl) (fun _ _ _ h => h) (Or.inl ⟨by rfl, fun Wx hS => by have hS' : (convert 37 9 v3).run Try.prog Wx = .ok (Sv l3) Wx := hS; go_simp⟩) Sa ?_
          go_simp
          refine wpAnyH_take (i := 14) (v := .bool true) rfl (by kernel_rfl) (by kernel_rfl) (by kernel_rfl) (fun _ _ _ h => h) (Or.inl ⟨by rfl, fun Wx hS => by have hS' : (convert 37 9 v3).run Try.prog Wx = .ok (Sv l3) Wx := hS; go_simp⟩) Sa ?_
          go_simp
          refine wpAnyH_take (i := 15) (v := Value.pointer (some ⟨px, 0, none⟩)) rfl (by kernel_rfl) (by kernel_rfl) (by kernel_rfl) (fun _ _ _ h => h) (Or.inl ⟨by rfl, fun Wx hS => by have hS' : (convert 37 9 v3).run Try.prog Wx = .ok (Sv l3) Wx := hS; go_simp⟩) Sa ?_
          go_simp
          refine wpAnyH_take (i := 16) (v := Value.pointer (some ⟨py, 0, none⟩)) rfl (by kernel_rfl) (by kernel_rfl) (by kernel_rfl) (fun _ _ _ h => h) (Or.inl ⟨by rfl, fun Wx hS => by have hS' : (convert 37 9 v3).run Try.prog Wx = .ok (Sv l3) Wx := hS; go_simp⟩) Sa ?_
          go_simp
          refine wpAnyH_ready (rs := [17]) (by kernel_rfl) (by simp) (AllReadyH.cons rfl (fun K hK => ?_) AllReadyH.nil)
          go_simp
          refine H16.out.mono ?_
          rintro e W14 ⟨rfl, k14⟩
          have Sb := HB2.out _ k14
          refine hK.out _ _ Sb (fun _ => ?_)
          clear hK K
          go_simp
          refine wpAnyH_take (i := 18) (v := .bool false) rfl (by kernel_rfl) (by kernel_rfl) (by kernel_rfl) (fun _ _ _ h => h) (Or.inl ⟨by rfl, fun Wx hS => by have hS' : (convert 37 9 v3).run Try.prog Wx = .ok (Sv l3) Wx := hS; go_simp⟩) Sb ?_
          go_simp
          refine wpAnyH_take (i := 19) (v := .bool false) rfl (by kernel_rfl) (by kernel_rfl) (by kernel_rfl) (fun _ _ _ h => h) (Or.inl ⟨by rfl, fun Wx hS => by have hS' : (convert 37 9 v3).run Try.prog Wx = .ok (Sv l3) Wx := hS; go_simp⟩) Sb ?_
          go_simp
          refine wpAnyH_take (i := 20) (v := Value.pointer (some ⟨px, 0, none⟩)) rfl (by kernel_rfl) (by kernel_rfl) (by kernel_rfl) (fun _ _ _ h => h) (Or.inl ⟨by rfl, fun Wx hS => by have hS' : (convert 37 9 v3).run Try.prog Wx = .ok (Sv l3) Wx := hS; go_simp⟩) Sb ?_
          go_simp
          refine wpAnyH_take (i := 23) (v := v3) rfl (by kernel_rfl) (by kernel_rfl) (by kernel_rfl) (fun _ _ _ h => h) (Or.inl ⟨by rfl, fun Wx hS => by have hS' : (convert 37 9 v3).run Try.prog Wx = .ok (Sv l3) Wx := hS; go_simp⟩) Sb ?_
          go_simp
          refine wpAnyH_take (i := 24) (v := Sv l3) rfl (by kernel_rfl) (by kernel_rfl) (by kernel_rfl) (fun _ _ _ h => h) (Or.inl ⟨by rfl, fun Wx hS => by have hS' : (convert 37 9 v3).run Try.prog Wx = .ok (Sv l3) Wx := hS; go_simp⟩) Sb ?_
          go_simp
          refine wpAnyH_ready (rs := [21]) (by kernel_rfl) (by simp) (AllReadyH.cons rfl (fun K hK => ?_) AllReadyH.nil)
          go_simp
          refine (H12.out _ k14).mono ?_
          rintro e W15 ⟨v15, rfl, hO15, k15, hf15⟩
          have hs15 := str37 _ _ _ hO15.reads
          have Sc := HB2.out _ (k14.trans k15 (by simp))
          refine hK.out _ _ Sc (fun _ => ?_)
          clear hK K
          go_simp
          refine wpAnyH_ready (rs := [22]) (by kernel_rfl) (by simp) (AllReadyH.cons rfl (fun K hK => ?_) AllReadyH.nil)
          go_simp
          refine hK.out _ _ Sc (fun _ => ?_)
          clear hK K
          go_simp
          refine wpAnyH_take (i := 25) (v := .bool false) rfl (by kernel_rfl) (by kernel_rfl) (by kernel_rfl) (fun _ _ _ h => h) (Or.inl ⟨by rfl, fun Wx hS => by have hS' : (convert 37 9 v3).run Try.prog Wx = .ok (Sv l3) Wx := hS; go_simp⟩) Sc ?_
          go_simp
          refine wpAnyH_take (i := 26) (v := .bool false) rfl (by kernel_rfl) (by kernel_rfl) (by kernel_rfl) (fun _ _ _ h => h) (Or.inl ⟨by rfl, fun Wx hS => by have hS' : (convert 37 9 v3).run Try.prog Wx = .ok (Sv l3) Wx := hS; go_simp⟩) Sc ?_
          go_simp
          refine wpAnyH_take (i := 27) (v := .bool false) rfl (by kernel_rfl) (by kernel_rfl) (by kernel_rfl) (fun _ _ _ h => h) (Or.inl ⟨by rfl, fun Wx hS => by have hS' : (convert 37 9 v3).run Try.prog Wx = .ok (Sv l3) Wx := hS; go_simp⟩) Sc ?_
          go_simp
          refine wpAnyH_take (i := 28) (v := .bool false) rfl (by kernel_rfl) (by kernel_rfl) (by kernel_rfl) (fun _ _ _ h => h) (Or.inl ⟨by rfl, fun Wx hS => by have hS' : (convert 37 9 v3).run Try.prog Wx = .ok (Sv l3) Wx := hS; go_simp⟩) Sc ?_
          go_simp
          refine wpAnyH_done (by kernel_rfl) ?_ _
          have TT := Hid.mk ((HT.out.kept0 ((Kept.refl [] w12).drew.trans k14 (by simp))).kept0 k15)
          clear hs15 Sa Sb Sc hO15 hf15 k14 k15 HB2 H12 H16 HT
          have HE1 := Hid.mk (two_enc TT.out)
          have hlen := encQ_length TT.out.gA
          go_wp2_with fail
          refine HE1.out.mono ?_
          rintro e w20 ⟨v20, rfl, hO20, k20, hf20⟩
          have HD1 := Hid.mk (decode14 v20 _ hO20.reads (by omega))
          have T20 := Hid.mk (TT.out.kept0 k20)
          clear hO20 hf20 k20 HE1
          go_wp2_with fail
          refine HD1.out.mono ?_
          rintro e w21 (⟨hd, -, -⟩ | ⟨p', Q', hd, rfl, hB', k21, hp'⟩)
          · rw [decQ_back T20.out.gA] at hd
            cases hd
          · rw [decQ_back T20.out.gA] at hd
            injection hd with hd
            subst hd
            have T21 : Two w w21 p' f Q6 Q6 := ⟨hB', T20.out.hasF.kept0 k21, by have := T20.out.kept.size; omega, T20.out.hf, T20.out.gA, T20.out.gB, T20.out.kept.trans k21 (by simp)⟩
            have HP2 := Hid.mk (play11 T21 HR2.out)
            clear hB' k21 hp' HD1 T20 T21
            go_wp2_with fail
            refine HP2.out.mono ?_
            rintro e w22 ⟨rfl, Q22, T22⟩
            have HK := Hid.mk T22.kept
            clear T22 HP2
            go_wp2_with fail
            go_ret
            exact ⟨rfl, HK.out⟩
end
end Go.Proofs.Ytelmppfacgdfbaa
