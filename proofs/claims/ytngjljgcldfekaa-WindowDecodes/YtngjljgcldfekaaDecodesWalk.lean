/-
  WindowDecodes: the walk.
-/
import Derived.Test.YtngjljgcldfekaaPlaysWalk
import Derived.Test.YtngjljgcldfekaaDw
namespace Go.Proofs.Ytngjljgcldfekaa
open Go.RowKit
set_option linter.unusedVariables false
section
variable {w : World}
set_option maxRecDepth 100000 in
set_option maxHeartbeats 4000000 in
theorem decodes_walk {a : Option Addr} {n c : Nat} {l : List Pr} (hr : PairsIn w (.slice a n c) l) (vb : Value) (B : List UInt8) (hB : Reads w vb B) (hin : Inside w vb) (hBl : B.length ≤ 140737488355328) : Calls Try.prog 4 #[.slice a n c, vb] w fun e w' => e = .returned (.bool true) ∧ Kept [] w w' := by
  obtain ⟨hn, hc1, hc2⟩ := hr.1.bound
  have HR := Hid.mk hr
  have HN := Hid.mk hn
  have HBB := Hid.mk hB
  have HI := Hid.mk hin
  have SO : Hid (∀ (v : Value) (l : List UInt8) (W : World), Reads W v l → (convert 45 9 v).run Try.prog W = .ok (.string ⟨l.toArray⟩) W) := fun v l W h => string_of (P := Try.prog) 45 5 Try.underlying45 9 Try.underlying5 Try.underlying9 v l W h
  clear hr hn hB hin
  go_enter Try.func4, Try.ntmps4
  go_wp2_with fail
  refine awake9.mono ?_
  rintro e w1 ⟨rfl, k1⟩
  by_cases h3 : 300 < n
  · have g3 : (300 : Int) < (n : Int) := by omega
    go_wp2_with fail
    refine awake9.mono ?_
    rintro e w2 ⟨rfl, k2⟩
    go_wp2_with fail
    go_ret
    exact ⟨rfl, k1.trans k2 (by simp)⟩
  have g3 : ((300 : Int) < (n : Int)) = False := eq_false (by omega)
  go_wp2_with fail
  refine (win_new k1).mono ?_
  rintro e w2 ⟨rfl, h2, k2⟩
  have hlp := h2.is.lt
  generalize w1.heap.size = p at h2 hlp ⊢
  have hP := pair_new (w2 := w2) h2.kept h2 hlp
  clear h2 k2 k1
  go_wp2_with fail
  generalize hpf : w2.heap.size = pf at hP ⊢
  generalize w2.alloc (.cells #[.slice none 0 0] 29) = W0 at hP ⊢
  clear hpf hlp
  go_loopw [27] (fun i wr => ∃ (j : Nat) (L : List Cl), i = .int .i64 (j : Int) ∧ j ≤ n ∧ Hid (Pair w wr p pf L L)) (fun i _ => n - (intOf i).toNat)
  case atStart => exact ⟨0, [], rfl, by omega, Hid.mk hP⟩
  case round =>
    clear hP
    obtain ⟨j, L, rfl, hj, hH⟩ := hrel
    by_cases hlt : j < n
    · have hjI : (j : Int) < (n : Int) := by omega
      have hj0 : (0 : Int) ≤ (j : Int) := by omega
      obtain ⟨x, hx⟩ : ∃ x, l[j]? = some x := ⟨_, List.getElem?_eq_getElem (by have := HN.out; omega)⟩
      have hxn := HR.out.2 x (List.mem_of_getElem? hx)
      have HXN := Hid.mk hxn
      obtain ⟨b, o, rfl, -, -⟩ := HR.out.1.at hx
      have HS : Hid (∀ W, Kept [] w W → W.cell? ⟨b, o + j * 2, none⟩ = some (Uv x.c) ∧ W.cell? ⟨b, o + j * 2 + 1, none⟩ = some (Uv x.s)) := fun W k => by
        obtain ⟨b', o', e, d0, d1⟩ := (HR.out.1.kept0 k).at hx
        injection e with e
        injection e with e1 e2 _
        subst e1 e2
        exact ⟨d0, d1⟩
      have hPd := hH.out.kept0 (Kept.refl [] wr).drew
      have S0 := HS.out _ hPd.win.kept
      have HA := Hid.mk (pair_add hPd hxn.1 hxn.2)
      clear hPd hx hxn hH
      generalize (!seenL L x.c x.s) = D at HA
      go_wp2_with fail
      go_region_held3 (fun W => W.cell? ⟨b, o + j * 2, none⟩ = some (Uv x.c) ∧ W.cell? ⟨b, o + j * 2 + 1, none⟩ = some (Uv x.s)) (first | exact S0 | exact S1) (first | (go_at_call 11; refine HA.out.mono ?_; rintro e w4 ⟨rfl, h4⟩; have S1 := HS.out _ h4.win.kept))
      have hPd := h4.kept0 (Kept.refl [] w4).drew
      have S2 := HS.out _ hPd.win.kept
      have HA2 := Hid.mk (pair_radd hPd HXN.out.1 HXN.out.2)
      clear S0 S1 h4 hPd HA
      generalize (!seenL L x.c x.s) = D2 at HA2
      go_wp2_with fail
      go_region_held3 (fun W => W.cell? ⟨b, o + j * 2, none⟩ = some (Uv x.c) ∧ W.cell? ⟨b, o + j * 2 + 1, none⟩ = some (Uv x.s)) (first | exact S2 | exact S3) (first | (go_at_call 12; refine HA2.out.mono ?_; rintro e w5 ⟨rfl, h5⟩; have S3 := HS.out _ h5.win.kept))
      have H5 := Hid.mk h5
      clear S2 S3 h5
      go_wp2_with fail
      go_roundw
      case rel => exact ⟨j + 1, _, by go_num, by omega, H5⟩
      case measure => simp [intOf]; omega
    · obtain rfl : j = n := by omega
      have hPd := hH.out.kept0 (Kept.refl [] wr).drew
      have HP := Hid.mk hH.out
      have HKD : Hid (Kept [] wr wr.drew) := (Kept.refl [] wr).drew
      have H19 := Hid.mk (encode19 hPd.win.is hPd.win.good)
      have HE20 : Hid (∀ W, Kept [] wr.drew W → Calls Try.prog 20 #[.pointer (some ⟨pf, 0, none⟩)] W fun e w' => NewB W (encW L) e w') := fun W k => by
        obtain ⟨u, qs, hF, hm⟩ := (hPd.kept0 k).ref
        have := rencode20 hF (by rw [hm]; exact hPd.good)
        rwa [hm] at this
      clear hPd hH
      go_wp2_with fail
      refine wp_region_held_drew (S := fun w' => True) (by kernel_rfl) trivial (fun _ => ?_)
      refine wpAnyH_take (i := 0) (v := .pointer (some ⟨p, 0, none⟩)) rfl (by kernel_rfl) (by kernel_rfl) (by kernel_rfl) (fun _ _ _ h => h) (Or.inl ⟨by rfl, fun w hS => by have hS' : True := hS; go_simp⟩) trivial ?_
      go_simp
      refine wpAnyH_take (i := 3) (v := .pointer (some ⟨pf, 0, none⟩)) rfl (by kernel_rfl) (by kernel_rfl) (by kernel_rfl) (fun _ _ _ h => h) (Or.inl ⟨by rfl, fun w hS => by have hS' : True := hS; go_simp⟩) trivial ?_
      go_simp
      refine wpAnyH_ready (rs := [1]) (by kernel_rfl) (by simp) (AllReadyH.cons rfl (fun K hK => ?_) AllReadyH.nil)
      go_simp
      refine (H19.out).mono ?_
      rintro e w6 ⟨v6, rfl, hO6, k6, hf6⟩
      have hs6 := SO.out v6 (encW L) w6 hO6.reads
      have H20 := Hid.mk (HE20.out _ k6)
      refine hK.out _ _ trivial (fun _ => ?_)
      clear hK K
      go_simp
      refine wpAnyH_ready (rs := [2, 4]) (by kernel_rfl) (by simp) (AllReadyH.cons rfl (fun K hK => ?_) (AllReadyH.cons rfl (fun K hK => ?_) AllReadyH.nil))
      · go_simp
        refine hK.out _ _ trivial (fun _ => ?_)
        clear hK K
        go_simp
        refine wpAnyH_ready (rs := [4]) (by kernel_rfl) (by simp) (AllReadyH.cons rfl (fun K hK => ?_) AllReadyH.nil)
        go_simp
        refine H20.out.mono ?_
        rintro e w7 ⟨v7, rfl, hO7, k7, hf7⟩
        have hs7 := SO.out v7 (encW L) w7 hO7.reads
        have hs67 := SO.out v6 (encW L) w7 (hO6.reads.kept k7 (by simp))
        refine hK.out _ _ trivial (fun _ => ?_)
        clear hK K
        go_simp
        refine wpAnyH_ready (rs := [5]) (by kernel_rfl) (by simp) (AllReadyH.cons rfl (fun K hK => ?_) AllReadyH.nil)
        go_simp
        refine hK.out _ _ trivial (fun _ => ?_)
        clear hK K
        go_simp
        refine wpAnyH_take (i := 6) (v := .bool false) rfl (by kernel_rfl) (by kernel_rfl) (by kernel_rfl) (fun _ _ _ h => h) (Or.inl ⟨by rfl, fun w hS => by go_simp⟩) trivial ?_
        go_simp
        refine wpAnyH_done (by kernel_rfl) ?_ _
        have hP7 := HP.out.kept0 ((HKD.out.trans k6 (by simp)).trans k7 (by simp))
        have HP7 := Hid.mk hP7
        clear hs6 hs7 hs67 hO6 hf6 k6 hO7 hf7 k7 H20 H19
        obtain ⟨u, qs, hF7, hm7⟩ := hP7.ref
        have hE7 := rencode20 hF7 (by rw [hm7]; exact hP7.good)
        rw [hm7] at hE7
        have HE7 := Hid.mk hE7
        clear hE7 hF7 hm7 hP7
        go_wp2_with fail
        refine HE7.out.mono ?_
        rintro e w8 ⟨v8, rfl, hO8, k8, -⟩
        have hD8 := decode21 v8 (encW L) hO8.reads (by have := encW_length HP7.out.good.fit; omega)
        rw [decW_back HP7.out.good] at hD8
        have HD8 := Hid.mk hD8
        clear hD8 hO8
        go_wp2_with fail
        refine HD8.out.mono ?_
        rintro e w9 hb9
        rcases hb9 with ⟨hd, -, -⟩ | ⟨p9, L9, hd9, rfl, hW9⟩
        · cases hd
        have hL9 : L9 = L := by injection hd9 with h; exact h.symm
        subst hL9
        have hP9 : Pair w w9 p9 pf L9 L9 := by
          obtain ⟨u, qs, hF, hm⟩ := ((HP7.out.kept0 k8).kept0 hW9.kept).ref
          exact ⟨⟨hW9.is, hW9.good, (HP7.out.win.kept.trans k8 (by simp)).trans hW9.kept (by simp), by have := hW9.new; have := HP7.out.win.kept.size; have := k8.size; omega⟩, ⟨u, qs, hF, hm⟩, HP7.out.good, HP7.out.new⟩
        have HP9 := Hid.mk hP9
        have HDb := Hid.mk (decode21 vb B (HBB.out.kept hP9.win.kept (by simp)) hBl)
        clear hP9 hW9 hd9 k8
        go_wp2_with fail
        refine HDb.out.mono ?_
        rintro e w10 hb10
        have hk10 : Kept [] w9 w10 := by
          rcases hb10 with ⟨-, -, k⟩ | ⟨_, _, -, -, hW⟩
          · exact k
          · exact hW.kept
        have hP10 := HP9.out.kept0 hk10
        have HRb := Hid.mk (rdecode22 vb B (HBB.out.kept hP10.win.kept (by simp)) (fun g hg => by have := HI.out g hg; have := hP10.win.kept.size; omega))
        have HP10 := Hid.mk hP10
        clear hP10 hk10
        cases hdb : decW B with
        | none =>
          rcases hb10 with ⟨-, rfl, -⟩ | ⟨_, _, h, -⟩
          · go_wp2_with fail
            refine HRb.out.mono ?_
            rintro e w11 hb11
            rcases hb11 with ⟨-, rfl, k11⟩ | ⟨_, _, h, -⟩
            · have HP11 := Hid.mk (HP10.out.kept0 k11)
              clear k11
              go_wp2_with fail
              refine (same13 HP11.out).mono ?_
              rintro e w12 ⟨rfl, hP12, -⟩
              have HK12 := Hid.mk hP12.win.kept
              clear hP12
              go_wp2_with fail
              go_quiet (fail)
              go_wp2_with fail
              go_ret
              exact ⟨rfl, HK12.out.drewN _⟩
            · rw [hdb] at h; cases h
          · rw [hdb] at h; cases h
        | some A =>
          rcases hb10 with ⟨h, -, -⟩ | ⟨p8, A8, hd8, rfl, hW8⟩
          · rw [hdb] at h; cases h
          · have hA8 : A8 = A := by rw [hdb] at hd8; injection hd8 with h; exact h.symm
            subst hA8
            have HW8 := Hid.mk hW8
            clear hW8 hd8
            go_wp2_with fail
            refine HRb.out.mono ?_
            rintro e w11 hb11
            rcases hb11 with ⟨h, -, -⟩ | ⟨pf9, A9, hd9, rfl, hF11, hG11, k11, hn11⟩
            · rw [hdb] at h; cases h
            · have hA9 : A9 = A8 := by rw [hdb] at hd9; injection hd9 with h; exact h.symm
              subst hA9
              have HAB := Hid.mk (decW_fwd hdb)
              have hk0 : Kept [] w w10 := HP10.out.win.kept
              have hPx : Pair w w11 p8 pf9 A9 A9 := ⟨⟨HW8.out.is.kept0 k11, HW8.out.good, hk0.trans k11 (by simp), by have := HW8.out.new; have := HP9.out.win.kept.size; omega⟩, hF11, hG11, by have := hk0.size; omega⟩
              have HPX := Hid.mk hPx
              have HP11 := Hid.mk (HP10.out.kept0 k11)
              clear hPx hF11 hG11 k11 hn11 hk0 hd9 hdb
              go_wp2_with fail
              refine (same13 HP11.out).mono ?_
              rintro e w12 ⟨rfl, hP12, k12⟩
              have hPy := (HPX.out.kept0 k12).kept0 (Kept.refl [] w12).drew
              have HK10 := Hid.mk hPy.win.kept
              have HS10 := Hid.mk (same13 hPy)
              have HCV : Hid (∀ W, Kept [] w W → (convert 45 9 vb).run Try.prog W = .ok (.string ⟨B.toArray⟩) W) := fun W k => SO.out vb B W (HBB.out.kept k (by simp))
              have S0 := HCV.out _ HK10.out
              clear hP12 hPy k12
              go_wp2_with fail
              refine wp_region_held_drew (S := fun w' => (convert 45 9 vb).run Try.prog w' = .ok (.string ⟨B.toArray⟩) w') (by kernel_rfl) S0 (fun _ => ?_)
              refine wpAnyH_take (i := 0) (v := .int .i64 0) rfl (by kernel_rfl) (by kernel_rfl) (by kernel_rfl) (fun _ _ _ h => h) (Or.inl ⟨by rfl, fun w hS => by have hS' : (convert 45 9 vb).run Try.prog w = .ok (.string ⟨B.toArray⟩) w := hS; go_simp⟩) S0 ?_
              go_simp
              refine wpAnyH_take (i := 1) (v := .bool false) rfl (by kernel_rfl) (by kernel_rfl) (by kernel_rfl) (fun _ _ _ h => h) (Or.inl ⟨by rfl, fun w hS => by have hS' : (convert 45 9 vb).run Try.prog w = .ok (.string ⟨B.toArray⟩) w := hS; go_simp⟩) S0 ?_
              go_simp
              refine wpAnyH_take (i := 2) (v := .bool false) rfl (by kernel_rfl) (by kernel_rfl) (by kernel_rfl) (fun _ _ _ h => h) (Or.inl ⟨by rfl, fun w hS => by have hS' : (convert 45 9 vb).run Try.prog w = .ok (.string ⟨B.toArray⟩) w := hS; go_simp⟩) S0 ?_
              go_simp
              refine wpAnyH_take (i := 3) (v := undef) rfl (by kernel_rfl) (by kernel_rfl) (by kernel_rfl) (fun _ _ _ h => h) (Or.inr ⟨by rfl, rfl⟩) S0 ?_
              go_simp
              refine wpAnyH_take (i := 4) (v := undef) rfl (by kernel_rfl) (by kernel_rfl) (by kernel_rfl) (fun _ _ _ h => h) (Or.inr ⟨by rfl, rfl⟩) S0 ?_
              go_simp
              refine wpAnyH_take (i := 5) (v := .bool false) rfl (by kernel_rfl) (by kernel_rfl) (by kernel_rfl) (fun _ _ _ h => h) (Or.inl ⟨by rfl, fun w hS => by have hS' : (convert 45 9 vb).run Try.prog w = .ok (.string ⟨B.toArray⟩) w := hS; go_simp⟩) S0 ?_
              go_simp
              refine wpAnyH_take (i := 6) (v := .bool false) rfl (by kernel_rfl) (by kernel_rfl) (by kernel_rfl) (fun _ _ _ h => h) (Or.inl ⟨by rfl, fun w hS => by have hS' : (convert 45 9 vb).run Try.prog w = .ok (.string ⟨B.toArray⟩) w := hS; go_simp⟩) S0 ?_
              go_simp
              refine wpAnyH_take (i := 7) (v := .int .i64 0) rfl (by kernel_rfl) (by kernel_rfl) (by kernel_rfl) (fun _ _ _ h => h) (Or.inl ⟨by rfl, fun w hS => by have hS' : (convert 45 9 vb).run Try.prog w = .ok (.string ⟨B.toArray⟩) w := hS; go_simp⟩) S0 ?_
              go_simp
              refine wpAnyH_take (i := 8) (v := .bool true) rfl (by kernel_rfl) (by kernel_rfl) (by kernel_rfl) (fun _ _ _ h => h) (Or.inl ⟨by rfl, fun w hS => by have hS' : (convert 45 9 vb).run Try.prog w = .ok (.string ⟨B.toArray⟩) w := hS; go_simp⟩) S0 ?_
              go_simp
              refine wpAnyH_take (i := 9) (v := .bool true) rfl (by kernel_rfl) (by kernel_rfl) (by kernel_rfl) (fun _ _ _ h => h) (Or.inl ⟨by rfl, fun w hS => by have hS' : (convert 45 9 vb).run Try.prog w = .ok (.string ⟨B.toArray⟩) w := hS; go_simp⟩) S0 ?_
              go_simp
              refine wpAnyH_take (i := 10) (v := .pointer (some ⟨p8, 0, none⟩)) rfl (by kernel_rfl) (by kernel_rfl) (by kernel_rfl) (fun _ _ _ h => h) (Or.inl ⟨by rfl, fun w hS => by have hS' : (convert 45 9 vb).run Try.prog w = .ok (.string ⟨B.toArray⟩) w := hS; go_simp⟩) S0 ?_
              go_simp
              refine wpAnyH_take (i := 11) (v := .pointer (some ⟨pf9, 0, none⟩)) rfl (by kernel_rfl) (by kernel_rfl) (by kernel_rfl) (fun _ _ _ h => h) (Or.inl ⟨by rfl, fun w hS => by have hS' : (convert 45 9 vb).run Try.prog w = .ok (.string ⟨B.toArray⟩) w := hS; go_simp⟩) S0 ?_
              go_simp
              refine wpAnyH_ready (rs := [12]) (by kernel_rfl) (by simp) (AllReadyH.cons rfl (fun K hK => ?_) AllReadyH.nil)
              go_simp
              refine (HS10.out).mono ?_
              rintro e w11 ⟨rfl, hP11, k11⟩
              have S11 := HCV.out _ (HK10.out.trans k11 (by simp))
              have H19b := Hid.mk (encode19 hP11.win.is hP11.win.good)
              refine hK.out _ _ S11 (fun _ => ?_)
              clear hK K
              go_simp
              refine wpAnyH_take (i := 13) (v := .bool true) rfl (by kernel_rfl) (by kernel_rfl) (by kernel_rfl) (fun _ _ _ h => h) (Or.inl ⟨by rfl, fun w hS => by have hS' : (convert 45 9 vb).run Try.prog w = .ok (.string ⟨B.toArray⟩) w := hS; go_simp⟩) S11 ?_
              go_simp
              refine wpAnyH_take (i := 14) (v := .bool true) rfl (by kernel_rfl) (by kernel_rfl) (by kernel_rfl) (fun _ _ _ h => h) (Or.inl ⟨by rfl, fun w hS => by have hS' : (convert 45 9 vb).run Try.prog w = .ok (.string ⟨B.toArray⟩) w := hS; go_simp⟩) S11 ?_
              go_simp
              refine wpAnyH_take (i := 15) (v := .pointer (some ⟨p8, 0, none⟩)) rfl (by kernel_rfl) (by kernel_rfl) (by kernel_rfl) (fun _ _ _ h => h) (Or.inl ⟨by rfl, fun w hS => by have hS' : (convert 45 9 vb).run Try.prog w = .ok (.string ⟨B.toArray⟩) w := hS; go_simp⟩) S11 ?_
              go_simp
              refine wpAnyH_take (i := 18) (v := vb) rfl (by kernel_rfl) (by kernel_rfl) (by kernel_rfl) (fun _ _ _ h => h) (Or.inl ⟨by rfl, fun w hS => by have hS' : (convert 45 9 vb).run Try.prog w = .ok (.string ⟨B.toArray⟩) w := hS; go_simp⟩) S11 ?_
              go_simp
              refine wpAnyH_take (i := 19) (v := .string ⟨B.toArray⟩) rfl (by kernel_rfl) (by kernel_rfl) (by kernel_rfl) (fun _ _ _ h => h) (Or.inl ⟨by rfl, fun w hS => by have hS' : (convert 45 9 vb).run Try.prog w = .ok (.string ⟨B.toArray⟩) w := hS; go_simp⟩) S11 ?_
              go_simp
              refine wpAnyH_ready (rs := [16]) (by kernel_rfl) (by simp) (AllReadyH.cons rfl (fun K hK => ?_) AllReadyH.nil)
              go_simp
              refine (H19b.out).mono ?_
              rintro e w12 ⟨v12, rfl, hO12, k12, hf12⟩
              rw [HAB.out] at hO12
              have S12 := HCV.out _ ((HK10.out.trans k11 (by simp)).trans k12 (by simp))
              have hs12 := SO.out v12 B w12 hO12.reads
              refine hK.out _ _ S12 (fun _ => ?_)
              clear hK K
              go_simp
              refine wpAnyH_ready (rs := [17]) (by kernel_rfl) (by simp) (AllReadyH.cons rfl (fun K hK => ?_) AllReadyH.nil)
              go_simp
              refine hK.out _ _ S12 (fun _ => ?_)
              clear hK K
              go_simp
              refine wpAnyH_take (i := 20) (v := .bool true) rfl (by kernel_rfl) (by kernel_rfl) (by kernel_rfl) (fun _ _ _ h => h) (Or.inl ⟨by rfl, fun w hS => by have hS' : (convert 45 9 vb).run Try.prog w = .ok (.string ⟨B.toArray⟩) w := hS; go_simp⟩) S12 ?_
              go_simp
              refine wpAnyH_take (i := 21) (v := .bool true) rfl (by kernel_rfl) (by kernel_rfl) (by kernel_rfl) (fun _ _ _ h => h) (Or.inl ⟨by rfl, fun w hS => by have hS' : (convert 45 9 vb).run Try.prog w = .ok (.string ⟨B.toArray⟩) w := hS; go_simp⟩) S12 ?_
              go_simp
              refine wpAnyH_take (i := 22) (v := .bool true) rfl (by kernel_rfl) (by kernel_rfl) (by kernel_rfl) (fun _ _ _ h => h) (Or.inl ⟨by rfl, fun w hS => by have hS' : (convert 45 9 vb).run Try.prog w = .ok (.string ⟨B.toArray⟩) w := hS; go_simp⟩) S12 ?_
              go_simp
              refine wpAnyH_take (i := 23) (v := .bool true) rfl (by kernel_rfl) (by kernel_rfl) (by kernel_rfl) (fun _ _ _ h => h) (Or.inl ⟨by rfl, fun w hS => by have hS' : (convert 45 9 vb).run Try.prog w = .ok (.string ⟨B.toArray⟩) w := hS; go_simp⟩) S12 ?_
              go_simp
              refine wpAnyH_done (by kernel_rfl) ?_ _
              have HKF := Hid.mk ((HK10.out.trans k11 (by simp)).trans k12 (by simp))
              clear S0 S11 S12 hs12 hO12 hf12 hP11 k11 k12
              go_wp2_with fail
              go_ret
              exact ⟨rfl, HKF.out⟩
      · go_simp
        refine H20.out.mono ?_
        rintro e w7 ⟨v7, rfl, hO7, k7, hf7⟩
        have hs7 := SO.out v7 (encW L) w7 hO7.reads
        have hs67 := SO.out v6 (encW L) w7 (hO6.reads.kept k7 (by simp))
        refine hK.out _ _ trivial (fun _ => ?_)
        clear hK K
        go_simp
        refine wpAnyH_ready (rs := [2, 5]) (by kernel_rfl) (by simp) (AllReadyH.cons rfl (fun K hK => ?_) (AllReadyH.cons rfl (fun K hK => ?_) AllReadyH.nil))
        · go_simp
          refine hK.out _ _ trivial (fun _ => ?_)
          clear hK K
          go_simp
          refine wpAnyH_ready (rs := [5]) (by kernel_rfl) (by simp) (AllReadyH.cons rfl (fun K hK => ?_) AllReadyH.nil)
          go_simp
          refine hK.out _ _ trivial (fun _ => ?_)
          clear hK K
          go_simp
          refine wpAnyH_take (i := 6) (v := .bool false) rfl (by kernel_rfl) (by kernel_rfl) (by kernel_rfl) (fun _ _ _ h => h) (Or.inl ⟨by rfl, fun w hS => by go_simp⟩) trivial ?_
          go_simp
          refine wpAnyH_done (by kernel_rfl) ?_ _
          have hP7 := HP.out.kept0 ((HKD.out.trans k6 (by simp)).trans k7 (by simp))
          have HP7 := Hid.mk hP7
          clear hs6 hs7 hs67 hO6 hf6 k6 hO7 hf7 k7 H20 H19
          obtain ⟨u, qs, hF7, hm7⟩ := hP7.ref
          have hE7 := rencode20 hF7 (by rw [hm7]; exact hP7.good)
          rw [hm7] at hE7
          have HE7 := Hid.mk hE7
          clear hE7 hF7 hm7 hP7
          go_wp2_with fail
          refine HE7.out.mono ?_
          rintro e w8 ⟨v8, rfl, hO8, k8, -⟩
          have hD8 := decode21 v8 (encW L) hO8.reads (by have := encW_length HP7.out.good.fit; omega)
          rw [decW_back HP7.out.good] at hD8
          have HD8 := Hid.mk hD8
          clear hD8 hO8
          go_wp2_with fail
          refine HD8.out.mono ?_
          rintro e w9 hb9
          rcases hb9 with ⟨hd, -, -⟩ | ⟨p9, L9, hd9, rfl, hW9⟩
          · cases hd
          have hL9 : L9 = L := by injection hd9 with h; exact h.symm
          subst hL9
          have hP9 : Pair w w9 p9 pf L9 L9 := by
            obtain ⟨u, qs, hF, hm⟩ := ((HP7.out.kept0 k8).kept0 hW9.kept).ref
            exact ⟨⟨hW9.is, hW9.good, (HP7.out.win.kept.trans k8 (by simp)).trans hW9.kept (by simp), by have := hW9.new; have := HP7.out.win.kept.size; have := k8.size; omega⟩, ⟨u, qs, hF, hm⟩, HP7.out.good, HP7.out.new⟩
          have HP9 := Hid.mk hP9
          have HDb := Hid.mk (decode21 vb B (HBB.out.kept hP9.win.kept (by simp)) hBl)
          clear hP9 hW9 hd9 k8
          go_wp2_with fail
          refine HDb.out.mono ?_
          rintro e w10 hb10
          have hk10 : Kept [] w9 w10 := by
            rcases hb10 with ⟨-, -, k⟩ | ⟨_, _, -, -, hW⟩
            · exact k
            · exact hW.kept
          have hP10 := HP9.out.kept0 hk10
          have HRb := Hid.mk (rdecode22 vb B (HBB.out.kept hP10.win.kept (by simp)) (fun g hg => by have := HI.out g hg; have := hP10.win.kept.size; omega))
          have HP10 := Hid.mk hP10
          clear hP10 hk10
          cases hdb : decW B with
          | none =>
            rcases hb10 with ⟨-, rfl, -⟩ | ⟨_, _, h, -⟩
            · go_wp2_with fail
              refine HRb.out.mono ?_
              rintro e w11 hb11
              rcases hb11 with ⟨-, rfl, k11⟩ | ⟨_, _, h, -⟩
              · have HP11 := Hid.mk (HP10.out.kept0 k11)
                clear k11
                go_wp2_with fail
                refine (same13 HP11.out).mono ?_
                rintro e w12 ⟨rfl, hP12, -⟩
                have HK12 := Hid.mk hP12.win.kept
                clear hP12
                go_wp2_with fail
                go_quiet (fail)
                go_wp2_with fail
                go_ret
                exact ⟨rfl, HK12.out.drewN _⟩
              · rw [hdb] at h; cases h
            · rw [hdb] at h; cases h
          | some A =>
            rcases hb10 with ⟨h, -, -⟩ | ⟨p8, A8, hd8, rfl, hW8⟩
            · rw [hdb] at h; cases h
            · have hA8 : A8 = A := by rw [hdb] at hd8; injection hd8 with h; exact h.symm
              subst hA8
              have HW8 := Hid.mk hW8
              clear hW8 hd8
              go_wp2_with fail
              refine HRb.out.mono ?_
              rintro e w11 hb11
              rcases hb11 with ⟨h, -, -⟩ | ⟨pf9, A9, hd9, rfl, hF11, hG11, k11, hn11⟩
              · rw [hdb] at h; cases h
              · have hA9 : A9 = A8 := by rw [hdb] at hd9; injection hd9 with h; exact h.symm
                subst hA9
                have HAB := Hid.mk (decW_fwd hdb)
                have hk0 : Kept [] w w10 := HP10.out.win.kept
                have hPx : Pair w w11 p8 pf9 A9 A9 := ⟨⟨HW8.out.is.kept0 k11, HW8.out.good, hk0.trans k11 (by simp), by have := HW8.out.new; have := HP9.out.win.kept.size; omega⟩, hF11, hG11, by have := hk0.size; omega⟩
                have HPX := Hid.mk hPx
                have HP11 := Hid.mk (HP10.out.kept0 k11)
                clear hPx hF11 hG11 k11 hn11 hk0 hd9 hdb
                go_wp2_with fail
                refine (same13 HP11.out).mono ?_
                rintro e w12 ⟨rfl, hP12, k12⟩
                have hPy := (HPX.out.kept0 k12).kept0 (Kept.refl [] w12).drew
                have HK10 := Hid.mk hPy.win.kept
                have HS10 := Hid.mk (same13 hPy)
                have HCV : Hid (∀ W, Kept [] w W → (convert 45 9 vb).run Try.prog W = .ok (.string ⟨B.toArray⟩) W) := fun W k => SO.out vb B W (HBB.out.kept k (by simp))
                have S0 := HCV.out _ HK10.out
                clear hP12 hPy k12
                go_wp2_with fail
                refine wp_region_held_drew (S := fun w' => (convert 45 9 vb).run Try.prog w' = .ok (.string ⟨B.toArray⟩) w') (by kernel_rfl) S0 (fun _ => ?_)
                refine wpAnyH_take (i := 0) (v := .int .i64 0) rfl (by kernel_rfl) (by kernel_rfl) (by kernel_rfl) (fun _ _ _ h => h) (Or.inl ⟨by rfl, fun w hS => by have hS' : (convert 45 9 vb).run Try.prog w = .ok (.string ⟨B.toArray⟩) w := hS; go_simp⟩) S0 ?_
                go_simp
                refine wpAnyH_take (i := 1) (v := .bool false) rfl (by kernel_rfl) (by kernel_rfl) (by kernel_rfl) (fun _ _ _ h => h) (Or.inl ⟨by rfl, fun w hS => by have hS' : (convert 45 9 vb).run Try.prog w = .ok (.string ⟨B.toArray⟩) w := hS; go_simp⟩) S0 ?_
                go_simp
                refine wpAnyH_take (i := 2) (v := .bool false) rfl (by kernel_rfl) (by kernel_rfl) (by kernel_rfl) (fun _ _ _ h => h) (Or.inl ⟨by rfl, fun w hS => by have hS' : (convert 45 9 vb).run Try.prog w = .ok (.string ⟨B.toArray⟩) w := hS; go_simp⟩) S0 ?_
                go_simp
                refine wpAnyH_take (i := 3) (v := undef) rfl (by kernel_rfl) (by kernel_rfl) (by kernel_rfl) (fun _ _ _ h => h) (Or.inr ⟨by rfl, rfl⟩) S0 ?_
                go_simp
                refine wpAnyH_take (i := 4) (v := undef) rfl (by kernel_rfl) (by kernel_rfl) (by kernel_rfl) (fun _ _ _ h => h) (Or.inr ⟨by rfl, rfl⟩) S0 ?_
                go_simp
                refine wpAnyH_take (i := 5) (v := .bool false) rfl (by kernel_rfl) (by kernel_rfl) (by kernel_rfl) (fun _ _ _ h => h) (Or.inl ⟨by rfl, fun w hS => by have hS' : (convert 45 9 vb).run Try.prog w = .ok (.string ⟨B.toArray⟩) w := hS; go_simp⟩) S0 ?_
                go_simp
                refine wpAnyH_take (i := 6) (v := .bool false) rfl (by kernel_rfl) (by kernel_rfl) (by kernel_rfl) (fun _ _ _ h => h) (Or.inl ⟨by rfl, fun w hS => by have hS' : (convert 45 9 vb).run Try.prog w = .ok (.string ⟨B.toArray⟩) w := hS; go_simp⟩) S0 ?_
                go_simp
                refine wpAnyH_take (i := 7) (v := .int .i64 0) rfl (by kernel_rfl) (by kernel_rfl) (by kernel_rfl) (fun _ _ _ h => h) (Or.inl ⟨by rfl, fun w hS => by have hS' : (convert 45 9 vb).run Try.prog w = .ok (.string ⟨B.toArray⟩) w := hS; go_simp⟩) S0 ?_
                go_simp
                refine wpAnyH_take (i := 8) (v := .bool true) rfl (by kernel_rfl) (by kernel_rfl) (by kernel_rfl) (fun _ _ _ h => h) (Or.inl ⟨by rfl, fun w hS => by have hS' : (convert 45 9 vb).run Try.prog w = .ok (.string ⟨B.toArray⟩) w := hS; go_simp⟩) S0 ?_
                go_simp
                refine wpAnyH_take (i := 9) (v := .bool true) rfl (by kernel_rfl) (by kernel_rfl) (by kernel_rfl) (fun _ _ _ h => h) (Or.inl ⟨by rfl, fun w hS => by have hS' : (convert 45 9 vb).run Try.prog w = .ok (.string ⟨B.toArray⟩) w := hS; go_simp⟩) S0 ?_
                go_simp
                refine wpAnyH_take (i := 10) (v := .pointer (some ⟨p8, 0, none⟩)) rfl (by kernel_rfl) (by kernel_rfl) (by kernel_rfl) (fun _ _ _ h => h) (Or.inl ⟨by rfl, fun w hS => by have hS' : (convert 45 9 vb).run Try.prog w = .ok (.string ⟨B.toArray⟩) w := hS; go_simp⟩) S0 ?_
                go_simp
                refine wpAnyH_take (i := 11) (v := .pointer (some ⟨pf9, 0, none⟩)) rfl (by kernel_rfl) (by kernel_rfl) (by kernel_rfl) (fun _ _ _ h => h) (Or.inl ⟨by rfl, fun w hS => by have hS' : (convert 45 9 vb).run Try.prog w = .ok (.string ⟨B.toArray⟩) w := hS; go_simp⟩) S0 ?_
                go_simp
                refine wpAnyH_ready (rs := [12]) (by kernel_rfl) (by simp) (AllReadyH.cons rfl (fun K hK => ?_) AllReadyH.nil)
                go_simp
                refine (HS10.out).mono ?_
                rintro e w11 ⟨rfl, hP11, k11⟩
                have S11 := HCV.out _ (HK10.out.trans k11 (by simp))
                have H19b := Hid.mk (encode19 hP11.win.is hP11.win.good)
                refine hK.out _ _ S11 (fun _ => ?_)
                clear hK K
                go_simp
                refine wpAnyH_take (i := 13) (v := .bool true) rfl (by kernel_rfl) (by kernel_rfl) (by kernel_rfl) (fun _ _ _ h => h) (Or.inl ⟨by rfl, fun w hS => by have hS' : (convert 45 9 vb).run Try.prog w = .ok (.string ⟨B.toArray⟩) w := hS; go_simp⟩) S11 ?_
                go_simp
                refine wpAnyH_take (i := 14) (v := .bool true) rfl (by kernel_rfl) (by kernel_rfl) (by kernel_rfl) (fun _ _ _ h => h) (Or.inl ⟨by rfl, fun w hS => by have hS' : (convert 45 9 vb).run Try.prog w = .ok (.string ⟨B.toArray⟩) w := hS; go_simp⟩) S11 ?_
                go_simp
                refine wpAnyH_take (i := 15) (v := .pointer (some ⟨p8, 0, none⟩)) rfl (by kernel_rfl) (by kernel_rfl) (by kernel_rfl) (fun _ _ _ h => h) (Or.inl ⟨by rfl, fun w hS => by have hS' : (convert 45 9 vb).run Try.prog w = .ok (.string ⟨B.toArray⟩) w := hS; go_simp⟩) S11 ?_
                go_simp
                refine wpAnyH_take (i := 18) (v := vb) rfl (by kernel_rfl) (by kernel_rfl) (by kernel_rfl) (fun _ _ _ h => h) (Or.inl ⟨by rfl, fun w hS => by have hS' : (convert 45 9 vb).run Try.prog w = .ok (.string ⟨B.toArray⟩) w := hS; go_simp⟩) S11 ?_
                go_simp
                refine wpAnyH_take (i := 19) (v := .string ⟨B.toArray⟩) rfl (by kernel_rfl) (by kernel_rfl) (by kernel_rfl) (fun _ _ _ h => h) (Or.inl ⟨by rfl, fun w hS => by have hS' : (convert 45 9 vb).run Try.prog w = .ok (.string ⟨B.toArray⟩) w := hS; go_simp⟩) S11 ?_
                go_simp
                refine wpAnyH_ready (rs := [16]) (by kernel_rfl) (by simp) (AllReadyH.cons rfl (fun K hK => ?_) AllReadyH.nil)
                go_simp
                refine (H19b.out).mono ?_
                rintro e w12 ⟨v12, rfl, hO12, k12, hf12⟩
                rw [HAB.out] at hO12
                have S12 := HCV.out _ ((HK10.out.trans k11 (by simp)).trans k12 (by simp))
                have hs12 := SO.out v12 B w12 hO12.reads
                refine hK.out _ _ S12 (fun _ => ?_)
                clear hK K
                go_simp
                refine wpAnyH_ready (rs := [17]) (by kernel_rfl) (by simp) (AllReadyH.cons rfl (fun K hK => ?_) AllReadyH.nil)
                go_simp
                refine hK.out _ _ S12 (fun _ => ?_)
                clear hK K
                go_simp
                refine wpAnyH_take (i := 20) (v := .bool true) rfl (by kernel_rfl) (by kernel_rfl) (by kernel_rfl) (fun _ _ _ h => h) (Or.inl ⟨by rfl, fun w hS => by have hS' : (convert 45 9 vb).run Try.prog w = .ok (.string ⟨B.toArray⟩) w := hS; go_simp⟩) S12 ?_
                go_simp
                refine wpAnyH_take (i := 21) (v := .bool true) rfl (by kernel_rfl) (by kernel_rfl) (by kernel_rfl) (fun _ _ _ h => h) (Or.inl ⟨by rfl, fun w hS => by have hS' : (convert 45 9 vb).run Try.prog w = .ok (.string ⟨B.toArray⟩) w := hS; go_simp⟩) S12 ?_
                go_simp
                refine wpAnyH_take (i := 22) (v := .bool true) rfl (by kernel_rfl) (by kernel_rfl) (by kernel_rfl) (fun _ _ _ h => h) (Or.inl ⟨by rfl, fun w hS => by have hS' : (convert 45 9 vb).run Try.prog w = .ok (.string ⟨B.toArray⟩) w := hS; go_simp⟩) S12 ?_
                go_simp
                refine wpAnyH_take (i := 23) (v := .bool true) rfl (by kernel_rfl) (by kernel_rfl) (by kernel_rfl) (fun _ _ _ h => h) (Or.inl ⟨by rfl, fun w hS => by have hS' : (convert 45 9 vb).run Try.prog w = .ok (.string ⟨B.toArray⟩) w := hS; go_simp⟩) S12 ?_
                go_simp
                refine wpAnyH_done (by kernel_rfl) ?_ _
                have HKF := Hid.mk ((HK10.out.trans k11 (by simp)).trans k12 (by simp))
                clear S0 S11 S12 hs12 hO12 hf12 hP11 k11 k12
                go_wp2_with fail
                go_ret
                exact ⟨rfl, HKF.out⟩
        · go_simp
          refine hK.out _ _ trivial (fun _ => ?_)
          clear hK K
          go_simp
          refine wpAnyH_ready (rs := [2]) (by kernel_rfl) (by simp) (AllReadyH.cons rfl (fun K hK => ?_) AllReadyH.nil)
          go_simp
          refine hK.out _ _ trivial (fun _ => ?_)
          clear hK K
          go_simp
          refine wpAnyH_take (i := 6) (v := .bool false) rfl (by kernel_rfl) (by kernel_rfl) (by kernel_rfl) (fun _ _ _ h => h) (Or.inl ⟨by rfl, fun w hS => by go_simp⟩) trivial ?_
          go_simp
          refine wpAnyH_done (by kernel_rfl) ?_ _
          have hP7 := HP.out.kept0 ((HKD.out.trans k6 (by simp)).trans k7 (by simp))
          have HP7 := Hid.mk hP7
          clear hs6 hs7 hs67 hO6 hf6 k6 hO7 hf7 k7 H20 H19
          obtain ⟨u, qs, hF7, hm7⟩ := hP7.ref
          have hE7 := rencode20 hF7 (by rw [hm7]; exact hP7.good)
          rw [hm7] at hE7
          have HE7 := Hid.mk hE7
          clear hE7 hF7 hm7 hP7
          go_wp2_with fail
          refine HE7.out.mono ?_
          rintro e w8 ⟨v8, rfl, hO8, k8, -⟩
          have hD8 := decode21 v8 (encW L) hO8.reads (by have := encW_length HP7.out.good.fit; omega)
          rw [decW_back HP7.out.good] at hD8
          have HD8 := Hid.mk hD8
          clear hD8 hO8
          go_wp2_with fail
          refine HD8.out.mono ?_
          rintro e w9 hb9
          rcases hb9 with ⟨hd, -, -⟩ | ⟨p9, L9, hd9, rfl, hW9⟩
          · cases hd
          have hL9 : L9 = L := by injection hd9 with h; exact h.symm
          subst hL9
          have hP9 : Pair w w9 p9 pf L9 L9 := by
            obtain ⟨u, qs, hF, hm⟩ := ((HP7.out.kept0 k8).kept0 hW9.kept).ref
            exact ⟨⟨hW9.is, hW9.good, (HP7.out.win.kept.trans k8 (by simp)).trans hW9.kept (by simp), by have := hW9.new; have := HP7.out.win.kept.size; have := k8.size; omega⟩, ⟨u, qs, hF, hm⟩, HP7.out.good, HP7.out.new⟩
          have HP9 := Hid.mk hP9
          have HDb := Hid.mk (decode21 vb B (HBB.out.kept hP9.win.kept (by simp)) hBl)
          clear hP9 hW9 hd9 k8
          go_wp2_with fail
          refine HDb.out.mono ?_
          rintro e w10 hb10
          have hk10 : Kept [] w9 w10 := by
            rcases hb10 with ⟨-, -, k⟩ | ⟨_, _, -, -, hW⟩
            · exact k
            · exact hW.kept
          have hP10 := HP9.out.kept0 hk10
          have HRb := Hid.mk (rdecode22 vb B (HBB.out.kept hP10.win.kept (by simp)) (fun g hg => by have := HI.out g hg; have := hP10.win.kept.size; omega))
          have HP10 := Hid.mk hP10
          clear hP10 hk10
          cases hdb : decW B with
          | none =>
            rcases hb10 with ⟨-, rfl, -⟩ | ⟨_, _, h, -⟩
            · go_wp2_with fail
              refine HRb.out.mono ?_
              rintro e w11 hb11
              rcases hb11 with ⟨-, rfl, k11⟩ | ⟨_, _, h, -⟩
              · have HP11 := Hid.mk (HP10.out.kept0 k11)
                clear k11
                go_wp2_with fail
                refine (same13 HP11.out).mono ?_
                rintro e w12 ⟨rfl, hP12, -⟩
                have HK12 := Hid.mk hP12.win.kept
                clear hP12
                go_wp2_with fail
                go_quiet (fail)
                go_wp2_with fail
                go_ret
                exact ⟨rfl, HK12.out.drewN _⟩
              · rw [hdb] at h; cases h
            · rw [hdb] at h; cases h
          | some A =>
            rcases hb10 with ⟨h, -, -⟩ | ⟨p8, A8, hd8, rfl, hW8⟩
            · rw [hdb] at h; cases h
            · have hA8 : A8 = A := by rw [hdb] at hd8; injection hd8 with h; exact h.symm
              subst hA8
              have HW8 := Hid.mk hW8
              clear hW8 hd8
              go_wp2_with fail
              refine HRb.out.mono ?_
              rintro e w11 hb11
              rcases hb11 with ⟨h, -, -⟩ | ⟨pf9, A9, hd9, rfl, hF11, hG11, k11, hn11⟩
              · rw [hdb] at h; cases h
              · have hA9 : A9 = A8 := by rw [hdb] at hd9; injection hd9 with h; exact h.symm
                subst hA9
                have HAB := Hid.mk (decW_fwd hdb)
                have hk0 : Kept [] w w10 := HP10.out.win.kept
                have hPx : Pair w w11 p8 pf9 A9 A9 := ⟨⟨HW8.out.is.kept0 k11, HW8.out.good, hk0.trans k11 (by simp), by have := HW8.out.new; have := HP9.out.win.kept.size; omega⟩, hF11, hG11, by have := hk0.size; omega⟩
                have HPX := Hid.mk hPx
                have HP11 := Hid.mk (HP10.out.kept0 k11)
                clear hPx hF11 hG11 k11 hn11 hk0 hd9 hdb
                go_wp2_with fail
                refine (same13 HP11.out).mono ?_
                rintro e w12 ⟨rfl, hP12, k12⟩
                have hPy := (HPX.out.kept0 k12).kept0 (Kept.refl [] w12).drew
                have HK10 := Hid.mk hPy.win.kept
                have HS10 := Hid.mk (same13 hPy)
                have HCV : Hid (∀ W, Kept [] w W → (convert 45 9 vb).run Try.prog W = .ok (.string ⟨B.toArray⟩) W) := fun W k => SO.out vb B W (HBB.out.kept k (by simp))
                have S0 := HCV.out _ HK10.out
                clear hP12 hPy k12
                go_wp2_with fail
                refine wp_region_held_drew (S := fun w' => (convert 45 9 vb).run Try.prog w' = .ok (.string ⟨B.toArray⟩) w') (by kernel_rfl) S0 (fun _ => ?_)
                refine wpAnyH_take (i := 0) (v := .int .i64 0) rfl (by kernel_rfl) (by kernel_rfl) (by kernel_rfl) (fun _ _ _ h => h) (Or.inl ⟨by rfl, fun w hS => by have hS' : (convert 45 9 vb).run Try.prog w = .ok (.string ⟨B.toArray⟩) w := hS; go_simp⟩) S0 ?_
                go_simp
                refine wpAnyH_take (i := 1) (v := .bool false) rfl (by kernel_rfl) (by kernel_rfl) (by kernel_rfl) (fun _ _ _ h => h) (Or.inl ⟨by rfl, fun w hS => by have hS' : (convert 45 9 vb).run Try.prog w = .ok (.string ⟨B.toArray⟩) w := hS; go_simp⟩) S0 ?_
                go_simp
                refine wpAnyH_take (i := 2) (v := .bool false) rfl (by kernel_rfl) (by kernel_rfl) (by kernel_rfl) (fun _ _ _ h => h) (Or.inl ⟨by rfl, fun w hS => by have hS' : (convert 45 9 vb).run Try.prog w = .ok (.string ⟨B.toArray⟩) w := hS; go_simp⟩) S0 ?_
                go_simp
                refine wpAnyH_take (i := 3) (v := undef) rfl (by kernel_rfl) (by kernel_rfl) (by kernel_rfl) (fun _ _ _ h => h) (Or.inr ⟨by rfl, rfl⟩) S0 ?_
                go_simp
                refine wpAnyH_take (i := 4) (v := undef) rfl (by kernel_rfl) (by kernel_rfl) (by kernel_rfl) (fun _ _ _ h => h) (Or.inr ⟨by rfl, rfl⟩) S0 ?_
                go_simp
                refine wpAnyH_take (i := 5) (v := .bool false) rfl (by kernel_rfl) (by kernel_rfl) (by kernel_rfl) (fun _ _ _ h => h) (Or.inl ⟨by rfl, fun w hS => by have hS' : (convert 45 9 vb).run Try.prog w = .ok (.string ⟨B.toArray⟩) w := hS; go_simp⟩) S0 ?_
                go_simp
                refine wpAnyH_take (i := 6) (v := .bool false) rfl (by kernel_rfl) (by kernel_rfl) (by kernel_rfl) (fun _ _ _ h => h) (Or.inl ⟨by rfl, fun w hS => by have hS' : (convert 45 9 vb).run Try.prog w = .ok (.string ⟨B.toArray⟩) w := hS; go_simp⟩) S0 ?_
                go_simp
                refine wpAnyH_take (i := 7) (v := .int .i64 0) rfl (by kernel_rfl) (by kernel_rfl) (by kernel_rfl) (fun _ _ _ h => h) (Or.inl ⟨by rfl, fun w hS => by have hS' : (convert 45 9 vb).run Try.prog w = .ok (.string ⟨B.toArray⟩) w := hS; go_simp⟩) S0 ?_
                go_simp
                refine wpAnyH_take (i := 8) (v := .bool true) rfl (by kernel_rfl) (by kernel_rfl) (by kernel_rfl) (fun _ _ _ h => h) (Or.inl ⟨by rfl, fun w hS => by have hS' : (convert 45 9 vb).run Try.prog w = .ok (.string ⟨B.toArray⟩) w := hS; go_simp⟩) S0 ?_
                go_simp
                refine wpAnyH_take (i := 9) (v := .bool true) rfl (by kernel_rfl) (by kernel_rfl) (by kernel_rfl) (fun _ _ _ h => h) (Or.inl ⟨by rfl, fun w hS => by have hS' : (convert 45 9 vb).run Try.prog w = .ok (.string ⟨B.toArray⟩) w := hS; go_simp⟩) S0 ?_
                go_simp
                refine wpAnyH_take (i := 10) (v := .pointer (some ⟨p8, 0, none⟩)) rfl (by kernel_rfl) (by kernel_rfl) (by kernel_rfl) (fun _ _ _ h => h) (Or.inl ⟨by rfl, fun w hS => by have hS' : (convert 45 9 vb).run Try.prog w = .ok (.string ⟨B.toArray⟩) w := hS; go_simp⟩) S0 ?_
                go_simp
                refine wpAnyH_take (i := 11) (v := .pointer (some ⟨pf9, 0, none⟩)) rfl (by kernel_rfl) (by kernel_rfl) (by kernel_rfl) (fun _ _ _ h => h) (Or.inl ⟨by rfl, fun w hS => by have hS' : (convert 45 9 vb).run Try.prog w = .ok (.string ⟨B.toArray⟩) w := hS; go_simp⟩) S0 ?_
                go_simp
                refine wpAnyH_ready (rs := [12]) (by kernel_rfl) (by simp) (AllReadyH.cons rfl (fun K hK => ?_) AllReadyH.nil)
                go_simp
                refine (HS10.out).mono ?_
                rintro e w11 ⟨rfl, hP11, k11⟩
                have S11 := HCV.out _ (HK10.out.trans k11 (by simp))
                have H19b := Hid.mk (encode19 hP11.win.is hP11.win.good)
                refine hK.out _ _ S11 (fun _ => ?_)
                clear hK K
                go_simp
                refine wpAnyH_take (i := 13) (v := .bool true) rfl (by kernel_rfl) (by kernel_rfl) (by kernel_rfl) (fun _ _ _ h => h) (Or.inl ⟨by rfl, fun w hS => by have hS' : (convert 45 9 vb).run Try.prog w = .ok (.string ⟨B.toArray⟩) w := hS; go_simp⟩) S11 ?_
                go_simp
                refine wpAnyH_take (i := 14) (v := .bool true) rfl (by kernel_rfl) (by kernel_rfl) (by kernel_rfl) (fun _ _ _ h => h) (Or.inl ⟨by rfl, fun w hS => by have hS' : (convert 45 9 vb).run Try.prog w = .ok (.string ⟨B.toArray⟩) w := hS; go_simp⟩) S11 ?_
                go_simp
                refine wpAnyH_take (i := 15) (v := .pointer (some ⟨p8, 0, none⟩)) rfl (by kernel_rfl) (by kernel_rfl) (by kernel_rfl) (fun _ _ _ h => h) (Or.inl ⟨by rfl, fun w hS => by have hS' : (convert 45 9 vb).run Try.prog w = .ok (.string ⟨B.toArray⟩) w := hS; go_simp⟩) S11 ?_
                go_simp
                refine wpAnyH_take (i := 18) (v := vb) rfl (by kernel_rfl) (by kernel_rfl) (by kernel_rfl) (fun _ _ _ h => h) (Or.inl ⟨by rfl, fun w hS => by have hS' : (convert 45 9 vb).run Try.prog w = .ok (.string ⟨B.toArray⟩) w := hS; go_simp⟩) S11 ?_
                go_simp
                refine wpAnyH_take (i := 19) (v := .string ⟨B.toArray⟩) rfl (by kernel_rfl) (by kernel_rfl) (by kernel_rfl) (fun _ _ _ h => h) (Or.inl ⟨by rfl, fun w hS => by have hS' : (convert 45 9 vb).run Try.prog w = .ok (.string ⟨B.toArray⟩) w := hS; go_simp⟩) S11 ?_
                go_simp
                refine wpAnyH_ready (rs := [16]) (by kernel_rfl) (by simp) (AllReadyH.cons rfl (fun K hK => ?_) AllReadyH.nil)
                go_simp
                refine (H19b.out).mono ?_
                rintro e w12 ⟨v12, rfl, hO12, k12, hf12⟩
                rw [HAB.out] at hO12
                have S12 := HCV.out _ ((HK10.out.trans k11 (by simp)).trans k12 (by simp))
                have hs12 := SO.out v12 B w12 hO12.reads
                refine hK.out _ _ S12 (fun _ => ?_)
                clear hK K
                go_simp
                refine wpAnyH_ready (rs := [17]) (by kernel_rfl) (by simp) (AllReadyH.cons rfl (fun K hK => ?_) AllReadyH.nil)
                go_simp
                refine hK.out _ _ S12 (fun _ => ?_)
                clear hK K
                go_simp
                refine wpAnyH_take (i := 20) (v := .bool true) rfl (by kernel_rfl) (by kernel_rfl) (by kernel_rfl) (fun _ _ _ h => h) (Or.inl ⟨by rfl, fun w hS => by have hS' : (convert 45 9 vb).run Try.prog w = .ok (.string ⟨B.toArray⟩) w := hS; go_simp⟩) S12 ?_
                go_simp
                refine wpAnyH_take (i := 21) (v := .bool true) rfl (by kernel_rfl) (by kernel_rfl) (by kernel_rfl) (fun _ _ _ h => h) (Or.inl ⟨by rfl, fun w hS => by have hS' : (convert 45 9 vb).run Try.prog w = .ok (.string ⟨B.toArray⟩) w := hS; go_simp⟩) S12 ?_
                go_simp
                refine wpAnyH_take (i := 22) (v := .bool true) rfl (by kernel_rfl) (by kernel_rfl) (by kernel_rfl) (fun _ _ _ h => h) (Or.inl ⟨by rfl, fun w hS => by have hS' : (convert 45 9 vb).run Try.prog w = .ok (.string ⟨B.toArray⟩) w := hS; go_simp⟩) S12 ?_
                go_simp
                refine wpAnyH_take (i := 23) (v := .bool true) rfl (by kernel_rfl) (by kernel_rfl) (by kernel_rfl) (fun _ _ _ h => h) (Or.inl ⟨by rfl, fun w hS => by have hS' : (convert 45 9 vb).run Try.prog w = .ok (.string ⟨B.toArray⟩) w := hS; go_simp⟩) S12 ?_
                go_simp
                refine wpAnyH_done (by kernel_rfl) ?_ _
                have HKF := Hid.mk ((HK10.out.trans k11 (by simp)).trans k12 (by simp))
                clear S0 S11 S12 hs12 hO12 hf12 hP11 k11 k12
                go_wp2_with fail
                go_ret
                exact ⟨rfl, HKF.out⟩
end
end Go.Proofs.Ytngjljgcldfekaa
