import Derived.Test.YtdadloaifebdiaaGreatQ08
import Derived.Test.YtdadloaifebdiaaGreatQ43
/-
  The document's Decode of an outbox: the walk.
-/
namespace Go.Proofs.YtdadloaifebdiaaGreat
set_option maxRecDepth 100000
open Go.RowKit
set_option linter.unusedVariables false
section
variable {w0 w w' : World} {pf q : Nat} {own : List UInt8} {K : List La} {ms : List Yq} {l : List UInt8} {bad : Bool}
theorem SF.badc (h : SF w0 w pf q own K ms l bad) : w.cell? ⟨q, 1, none⟩ = some (.bool bad) := by
  obtain ⟨x, h1, -⟩ := h.rd
  exact (cell_of_two h1.box).2
theorem key28q (s : List UInt8) (hs : s.length ≤ 281474976710656) (W : World) : Calls Tryz.prog 79 #[Sv s] W fun e w' => e = .returned (.bool (isKey s)) ∧ w' = W := (key28 (w := W) s hs).mono fun e w' h => ⟨h.1, h.2.symm⟩
set_option maxHeartbeats 8000000 in
theorem decode17 (v : Value) (l : List UInt8) (hr : Reads w v l) (hin : Inside w v) (hl : l.length ≤ 140737488355328) : Calls Tryz.prog 26 #[v] w fun e w' => DecF w l e w' := by
  have HN : Hid (∀ W, decO l = none → Kept [] w W → DecF w l (.returned (.tuple #[.pointer none, .int .i64 2])) W) := fun W h k => .inl ⟨h, rfl, k⟩
  have HY : Hid (∀ W pf v u o ms, decO l = some o → IsF w W pf v u o.own o.K ms → ms.map ot = o.L → Kept [] w W → DecF w l (.returned (.tuple #[.pointer (some ⟨pf, 0, none⟩), .int .i64 0])) W) := fun W pf v u o ms h1 h2 h3 h4 => .inr ⟨pf, v, u, o, ms, h1, rfl, h2, h3, h4⟩
  generalize DecF w l = R at HN HY
  have HR := Hid.mk hr
  have HI := Hid.mk hin
  clear hr hin
  go_enter Tryz.func26, Tryz.ntmps26
  go_wp2_with fail
  refine (of_any v l w HR.out HI.out).mono ?_
  rintro e w1 ⟨q, rfl, hR1, k1, hq1⟩
  have HT := Hid.mk (refr_text q v l false w1 hR1)
  clear hR1
  go_wp2_with fail
  refine HT.out.mono ?_
  rintro e w2 ⟨rfl, v2, hR2, k2, hi2⟩
  have k02 : Kept [] w w2 := k1.trans k2 (fun x hx => by simp at hx; subst hx; exact .inr hq1)
  have hkl := (rtext_rest l false).1
  obtain ⟨own, hown⟩ : ∃ own, (rtext l false).1 = own := ⟨_, rfl⟩
  rw [hown] at hkl ⊢
  obtain ⟨W3, e3, k3, hz3, hb3⟩ := box1 w2 (.cells #[Sv own, .slice none 0 0, .slice none 0 0] 83)
  have h3 : SF w W3 w2.heap.size q own [] [] (rtext l false).2.1 (rtext l false).2.2 := ⟨⟨_, _, hb3, OwnY.nil _ _ _, OwnsR.nil _ _ _, fresh_nil _ _, k02.size⟩, ⟨v2, hR2.kept k3 (by simp) (by simp), fun g hg => HI.out g (hi2 g hg)⟩, hq1, k02.trans k3 (by simp)⟩
  have H4 := Hid.mk (sf_num h3)
  have E3 := Hid.mk e3
  clear h3 hR2 k2 k1 hi2 e3 HT hb3 k3 hz3 k02
  go_wp2_with fail
  rw [E3.out]
  clear E3
  generalize w2.heap.size = pf at *
  refine H4.out.mono ?_
  rintro e w4 ⟨rfl, h4⟩
  clear H4
  have hn64 := rnum_lt (rtext l false).2.1 (rtext l false).2.2
  cases hb : (rnum (rtext l false).2.1 (rtext l false).2.2).2.2 with
  | true =>
    have HO : Hid (decO l = none) := by
      show _ = _
      unfold decO
      cases ht : txt l with
      | none => rfl
      | some a =>
        obtain ⟨k, r⟩ := a
        rw [txt_some ht] at hb
        dsimp only [Option.bind_some] at hb ⊢
        cases hn : num r with
        | none => rfl
        | some b =>
          obtain ⟨s, r2⟩ := b
          rw [num_some hn] at hb
          cases hb
    rw [hb] at h4
    have hbc := h4.badc
    have HS := Hid.mk (HN.out _ HO.out h4.k)
    clear HN HY HO h4 hb hown
    generalize (rnum (rtext l false).2.1 (rtext l false).2.2).1 = n at *
    go_wp2_with fail
    exact HS.out
  | false =>
    obtain ⟨r, ht⟩ : ∃ r, txt l = some (own, r) := by
      cases ht : txt l with
      | none => rw [txt_none ht] at hb; cases hb
      | some a =>
        obtain ⟨k, r⟩ := a
        rw [txt_some ht] at hown
        exact ⟨r, by rw [← hown]⟩
    rw [txt_some ht] at hb h4 hn64 ⊢
    dsimp only at hb h4 hn64
    obtain ⟨n, r1, hn⟩ : ∃ n r1, num r = some (n, r1) := by
      cases hn : num r with
      | none => rw [num_none hn] at hb; cases hb
      | some b => exact ⟨b.1, b.2, rfl⟩
    rw [num_some hn] at h4 hn64 ⊢
    dsimp only at h4 hn64
    have hrl : r.length ≤ l.length := by have := (rtext_rest l false).2; rw [txt_some ht] at this; exact this
    have hr1l : r1.length ≤ l.length := by have := congrArg List.length (num_fwd hn); rw [List.length_append] at this; omega
    have HDE : Hid (decO l = if isKey own = false ∨ 64 < n then none else (rks n [] r1).bind fun c => (num c.2).bind fun d => if 32 < d.1 then none else (rls own c.1 d.1 [] d.2).bind fun e => if e.2 = [] ∧ ordO c.1 e.1 = true then some ⟨own, c.1, e.1⟩ else none) := by
      show _ = _
      unfold decO
      rw [ht]
      dsimp only [Option.bind_some]
      rw [hn]
      rfl
    clear ht hn hb hown
    have hbc := h4.badc
    have hoc : w4.cell? ⟨pf, 0, none⟩ = some (Sv own) := by obtain ⟨v4, u4, hF⟩ := h4.isF; exact (cells3 hF.box).1
    have H4 := Hid.mk h4
    have HK28 := Hid.mk (key28 (w := w4) own (by omega))
    clear h4
    cases hk : isKey own with
    | false =>
      rw [hk] at HK28
      have HS := Hid.mk (HN.out _ (by rw [HDE.out, if_pos (.inl hk)]) H4.out.k)
      clear HN HY H4 HDE hk
      go_wp2_with fail
      refine HK28.out.mono ?_
      rintro e w5 ⟨rfl, rfl⟩
      go_wp2_with fail
      exact HS.out
    | true =>
      rw [hk] at HK28
      by_cases h64 : 64 < n
      · have HS := Hid.mk (HN.out _ (by rw [HDE.out, if_pos (.inr h64)]) H4.out.k)
        have g64 : (64 : Int) < (n : Int) := by omega
        clear HN HY H4 HDE hk
        go_wp2_with fail
        refine HK28.out.mono ?_
        rintro e w5 ⟨rfl, rfl⟩
        go_wp2_with fail
        exact HS.out
      · have HDE2 : Hid (decO l = (rks n [] r1).bind fun c => (num c.2).bind fun d => if 32 < d.1 then none else (rls own c.1 d.1 [] d.2).bind fun e => if e.2 = [] ∧ ordO c.1 e.1 = true then some ⟨own, c.1, e.1⟩ else none) := by
          show _ = _
          rw [HDE.out, if_neg]
          rintro (h | h)
          · rw [hk] at h; cases h
          · exact h64 h
        have g64 : ((64 : Int) < (n : Int)) = False := eq_false (by omega)
        have hn64' : n ≤ 64 := by omega
        clear HDE hk h64
        go_wp2_with fail
        refine HK28.out.mono ?_
        rintro e w5 ⟨rfl, rfl⟩
        clear HK28
        go_wp2_with fail
        clear hbc hoc
        go_loopw [37] (fun i wr => ∃ (j : Nat) (K : List La) (r : List UInt8), i = .int .u64 (j : Int) ∧ j ≤ n ∧ K.length = j ∧ r.length ≤ l.length ∧ Hid (SF w wr pf q own K [] r false ∧ rks n [] r1 = rks (n - j) K r)) (fun i _ => n - (intOf i).toNat)
        case atStart => exact ⟨0, [], r1, rfl, by omega, rfl, hr1l, Hid.mk ⟨H4.out, rfl⟩⟩
        case round =>
          clear H4
          obtain ⟨j, K, r, rfl, hj, hKl, hrl, hH⟩ := hrel
          obtain ⟨hS, hO⟩ := hH.out
          by_cases hlt : j < n
          · have hjI : (j : Int) < (n : Int) := by omega
            have H5 := Hid.mk (sf_text hS)
            have HOO := Hid.mk hO
            clear hH hS hO
            go_wp2_with fail
            refine H5.out.mono ?_
            rintro e w5 ⟨rfl, h5⟩
            have H6 := Hid.mk (sf_num h5)
            clear H5 h5
            go_wp2_with fail
            refine H6.out.mono ?_
            rintro e w6 ⟨rfl, h6⟩
            clear H6
            obtain ⟨m, hm⟩ : ∃ m, n - j = m + 1 := ⟨n - j - 1, by omega⟩
            have HNO : Hid (isKey (rtext r false).1 = false ∨ ¬ lastK K < (rtext r false).1 ∨ (rnum (rtext r false).2.1 (rtext r false).2.2).1 = 0 → decO l = none) := fun h => by rw [HDE2.out, HOO.out, hm, rks_no h]; rfl
            have HBAD : Hid ((rnum (rtext r false).2.1 (rtext r false).2.2).2.2 = true → decO l = none) := fun h => by rw [HDE2.out, HOO.out, hm, rks_bad h]; rfl
            have HYES : Hid (isKey (rtext r false).1 = true → lastK K < (rtext r false).1 → (rnum (rtext r false).2.1 (rtext r false).2.2).1 ≠ 0 → rks n [] r1 = rks m (K ++ [⟨(rtext r false).1, (rnum (rtext r false).2.1 (rtext r false).2.2).1⟩]) (rnum (rtext r false).2.1 (rtext r false).2.2).2.1) := fun a b c => by rw [HOO.out, hm]; exact (rks_yes a b c).2
            have hl2 := rest_le r
            have hs64 : (rnum (rtext r false).2.1 (rtext r false).2.2).1 < 18446744073709551616 := rnum_lt _ _
            have hklen : (rtext r false).1.length ≤ 140737488355328 := by have := text_le r; omega
            have HM := Hid.mk hm
            clear HOO hm
            generalize (rtext r false).1 = kk at *
            generalize (rnum (rtext r false).2.1 (rtext r false).2.2).1 = s at *
            generalize (rnum (rtext r false).2.1 (rtext r false).2.2).2.1 = r2 at *
            generalize (rnum (rtext r false).2.1 (rtext r false).2.2).2.2 = b2 at *
            go_wp2_with fail
            obtain ⟨W7, e7, k7, hz7, hb7⟩ := box1 w6 (.cells #[Sv kk, Uv s] 136)
            rw [e7]
            clear e7
            have h7 := h6.kept0 k7
            have hbc := h7.badc
            have c0 : W7.cell? ⟨w6.heap.size, 0, none⟩ = some (Sv kk) := IsO.cell (cs := [Sv kk, Uv s]) hb7 rfl
            have c1 : W7.cell? ⟨w6.heap.size, 1, none⟩ = some (Uv s) := IsO.cell (cs := [Sv kk, Uv s]) hb7 rfl
            have H7 := Hid.mk h7
            have HK := Hid.mk (key28q kk (by omega))
            clear h6 k7 hz7 h7
            cases b2 with
            | true =>
              have HS := Hid.mk (HBAD.out rfl)
              clear HNO HYES HBAD HK
              go_quiet (fail)
              have HE := Hid.mk (HN.out _ HS.out (H7.out.k.drewN nq))
              go_wp2_with fail
              exact HE.out
            | false =>
              cases hk : isKey kk with
              | false =>
                have HS := Hid.mk (HNO.out (.inl hk))
                rw [hk] at HK
                clear HNO HYES HBAD hk
                go_quiet ((go_at_call 79; exact Calls.quiet_of_same (HK.out _)))
                have HE := Hid.mk (HN.out _ HS.out (H7.out.k.drewN nq))
                go_wp2_with fail
                exact HE.out
              | true =>
                have HKK := Hid.mk hk
                rw [hk] at HK
                clear hk
                by_cases hs0 : s = 0
                · have HS := Hid.mk (HNO.out (.inr (.inr hs0)))
                  have hz : ((s : Int) == 0) = true := by simp [hs0]
                  clear HNO HYES HBAD hs0
                  go_quiet ((go_at_call 79; exact Calls.quiet_of_same (HK.out _)))
                  have HE := Hid.mk (HN.out _ HS.out (H7.out.k.drewN nq))
                  go_wp2_with fail
                  exact HE.out
                · have hz : ((s : Int) == 0) = false := by simp; omega
                  obtain ⟨v7, u7, hF7⟩ := H7.out.isF
                  obtain ⟨au, cu, rfl, hc1, hc2⟩ := rowK_form hF7.krow
                  obtain ⟨x0, x1, x2⟩ := cells3 hF7.box
                  have hj0 : (0 : Int) ≤ (j : Int) := by omega
                  have hcase : (¬ lastK K < kk) ∨ lastK K < kk := by
                    by_cases h : lastK K < kk
                    · exact .inr h
                    · exact .inl h
                  rcases hcase with hab | hab
                  · have HS := Hid.mk (HNO.out (.inr (.inl hab)))
                    obtain ⟨z, hz, hlz⟩ : ∃ z, K[j - 1]? = some z ∧ lastK K = z.k := by
                      cases hg : K.getLast? with
                      | none =>
                        have e : lastK K = [] := by simp [lastK, hg]
                        rw [e] at hab
                        exact absurd (nil_lt HKK.out) hab
                      | some z =>
                        refine ⟨z, ?_, last_some hg⟩
                        rw [List.getLast?_eq_getElem?, hKl] at hg
                        exact hg
                    have hj1 : 0 < j := by
                      rcases Nat.eq_zero_or_pos j with h | h
                      · rw [h] at hKl
                        have := List.eq_nil_of_length_eq_zero hKl
                        rw [this] at hz
                        simp at hz
                      · exact h
                    have hj1I : (0 : Int) < (j : Int) := by omega
                    obtain ⟨b, o, rfl, t0, t1⟩ := rowK_at hF7.krow hz
                    rw [hKl] at x2
                    rw [hlz] at hab
                    have hge : Op.bytesLess z.k kk = false := by rw [bytesLess_eq]; simpa using hab
                    obtain ⟨j1, hj2⟩ : ∃ j1, j - 1 = j1 := ⟨_, rfl⟩
                    rw [hj2] at t0
                    have hw1 : IntKind.u64.wrap ((j : Int) - 1) = (j1 : Int) := by rw [IntKind.wrap_u64]; omega
                    have hw2 : (j : Int) - 1 = (j1 : Int) := by omega
                    have hq0 : (0 : Int) ≤ (j1 : Int) := by omega
                    have hq1 : (j1 : Int) < (j : Int) := by omega
                    clear HNO HYES HBAD hF7 hz hlz hab hs0 hj2 t1
                    go_quiet ((go_at_call 79; exact Calls.quiet_of_same (HK.out _)))
                    have HE := Hid.mk (HN.out _ HS.out (H7.out.k.drewN nq))
                    go_wp2_with fail
                    exact HE.out
                  · have HO2 := Hid.mk (HYES.out HKK.out hab hs0)
                    have HF7 := Hid.mk hF7
                    have hkn : K.length ≤ 64 := by omega
                    clear HNO HBAD HYES hF7
                    have hcase : j = 0 ∨ (0 < j ∧ ∃ z, K[j - 1]? = some z ∧ lastK K = z.k) := by
                      rcases Nat.eq_zero_or_pos j with h | h
                      · exact .inl h
                      · refine .inr ⟨h, ?_⟩
                        obtain ⟨z, hz⟩ : ∃ z, K[j - 1]? = some z := ⟨_, List.getElem?_eq_getElem (by omega)⟩
                        refine ⟨z, hz, last_some ?_⟩
                        rw [List.getLast?_eq_getElem?, hKl]
                        exact hz
                    rw [hKl] at x2
                    rcases hcase with hj00 | ⟨hj1, z, hz, hlz⟩
                    case' inl =>
                      have hgt : ((0 : Int) < (j : Int)) = False := eq_false (by omega)
                      have hgt2 : (0 < j) = False := eq_false (by omega)
                      clear hj00 hab hs0
                      go_quiet ((go_at_call 79; exact Calls.quiet_of_same (HK.out _)))
                      clear hgt hgt2
                    case' inr =>
                      have hj1I : (0 : Int) < (j : Int) := by omega
                      obtain ⟨b, o, hau, t0, t1⟩ := rowK_at HF7.out.krow hz
                      rw [hlz] at hab
                      have hge : Op.bytesLess z.k kk = true := by rw [bytesLess_eq]; simpa using hab
                      obtain ⟨j1, hj2⟩ : ∃ j1, j - 1 = j1 := ⟨_, rfl⟩
                      rw [hj2] at t0
                      have hw1 : IntKind.u64.wrap ((j : Int) - 1) = (j1 : Int) := by rw [IntKind.wrap_u64]; omega
                      have hw2 : (j : Int) - 1 = (j1 : Int) := by omega
                      have hq0 : (0 : Int) ≤ (j1 : Int) := by omega
                      have hq1 : (j1 : Int) < (j : Int) := by omega
                      rw [hau] at x2
                      clear hz hlz hab hs0 hj2 t1
                      go_quiet ((go_at_call 79; exact Calls.quiet_of_same (HK.out _)))
                      rw [← hau] at x2
                      clear hge hw1 hw2 hq0 hq1 t0 hj1I hau
                    all_goals
                      have kq := (Kept.refl [] W7).drewN nq
                      have H8 := Hid.mk (H7.out.kept0 kq)
                      have HF8 := Hid.mk (HF7.out.kept0 kq)
                      have hb8 := kq.keeps hb7 (by simp)
                      generalize W7.drewN nq = V at H8 HF8 hb8 ⊢
                      clear kq x0 x1 x2 c0 c1 hbc
                      have hFd := HF8.out.kept0 (Kept.refl [] V).drew
                      rw [hKl] at hFd
                      have hsz : w.heap.size ≤ V.drew.heap.size := H8.out.k.size
                      obtain ⟨a9, c9, w9, hrun, q9, f9, hF9, k9⟩ := hFd.addK hsz ⟨kk, s⟩ (by omega)
                      rw [hKl] at hrun hF9 k9
                      have hrun : (Builtin.append_ #[81, 81] 81 #[.slice au j cu, .slice (some ⟨V.heap.size, 0, none⟩) 1 1]).run Tryz.prog (V.alloc (.cells #[Sv kk, Uv s] 136)).drew = .ok (.slice a9 (j + 1) c9) w9 := hrun
                      have y0 : V.drew.cell? ⟨w6.heap.size, 0, none⟩ = some (Sv kk) := IsO.cell (cs := [Sv kk, Uv s]) (w := V.drew) hb8 rfl
                      have y1 : V.drew.cell? ⟨w6.heap.size, 1, none⟩ = some (Uv s) := IsO.cell (cs := [Sv kk, Uv s]) (w := V.drew) hb8 rfl
                      have y2 : V.drew.cell? ⟨pf, 2, none⟩ = some (.slice au j cu) := (cells3 hFd.box).2.2
                      have y3 : (V.alloc (.cells #[Sv kk, Uv s] 136)).drew.cell? ⟨pf, 2, none⟩ = some (.slice au j cu) := ((Kept.refl [] V.drew).alloc (.cells #[Sv kk, Uv s] 136)).cell_eq y2
                      have HSF : Hid (SF w (w9.setCell ⟨pf, 2, none⟩ (.slice a9 (j + 1) c9)) pf q own (K ++ [⟨kk, s⟩]) [] r2 false) := (H8.out.kept0 (Kept.refl [] V).drew).turn hFd hF9 k9
                      clear hFd hF9 k9 hb8 HF8 H8 hb7 HF7 H7
                      go_wp2_with fail
                      go_region_law (first | (refine step_append_run 81 (.tmp 82) (.tmp 84) (by rfl) (by rfl) _ _ (by rfl) (by rfl) hrun ?_))
                      all_goals
                        clear hrun q9 f9 y0 y1 y2 y3
                        go_wp2_with fail
                        go_roundw
                        case rel =>
                          refine ⟨j + 1, K ++ [⟨kk, s⟩], r2, by go_num, by omega, by rw [List.length_append, hKl]; rfl, by omega, Hid.mk ⟨HSF.out, ?_⟩⟩
                          rw [HO2.out]
                          have := HM.out
                          congr 1
                          omega
                        case measure => simp [intOf]; omega
          · obtain rfl : j = n := by omega
            rw [Nat.sub_self, rks] at hO
            obtain ⟨X, -, hX, -, hri, hkeys⟩ := rks_fwd j [] r1 K r List.Pairwise.nil hO
            rw [List.nil_append] at hX
            subst hX
            have HDE3 : Hid (decO l = (num r).bind fun d => if 32 < d.1 then none else (rls own K d.1 [] d.2).bind fun e => if e.2 = [] ∧ ordO K e.1 = true then some ⟨own, K, e.1⟩ else none) := by show _ = _; rw [HDE2.out, hO]; rfl
            have HRI := Hid.mk hri
            have HKEYS := Hid.mk hkeys
            have H5 := Hid.mk (sf_num hS)
            clear hH hS hO HDE2 hri hkeys
            go_wp2_with fail
            refine H5.out.mono ?_
            rintro e w5 ⟨rfl, h5⟩
            clear H5
            cases hn : num r with
            | none =>
              rw [num_none hn] at h5 ⊢
              have hbc := h5.badc
              have HS := Hid.mk (HN.out _ (by rw [HDE3.out, hn]; rfl) h5.k)
              clear h5 HDE3 hn HN HY
              dsimp only
              go_wp2_with fail
              exact HS.out
            | some d =>
              obtain ⟨m0, r3⟩ := d
              have hm64 := num_lt hn
              have hr3l : r3.length ≤ l.length := by have := congrArg List.length (num_fwd hn); rw [List.length_append] at this; omega
              have HDE4 : Hid (decO l = if 32 < m0 then none else (rls own K m0 [] r3).bind fun e => if e.2 = [] ∧ ordO K e.1 = true then some ⟨own, K, e.1⟩ else none) := by show _ = _; rw [HDE3.out, hn]; rfl
              rw [num_some hn] at h5 ⊢
              dsimp only at h5
              have hbc := h5.badc
              have H6 := Hid.mk h5
              have hm64' : m0 < 18446744073709551616 := hm64
              clear h5 HDE3 hn hm64
              by_cases h32 : 32 < m0
              · have g32 : (32 : Int) < (m0 : Int) := by omega
                have HS := Hid.mk (HN.out _ (by rw [HDE4.out, if_pos h32]) H6.out.k)
                clear HDE4 HN HY H6
                dsimp only
                go_wp2_with fail
                exact HS.out
              · have g32 : ((32 : Int) < (m0 : Int)) = False := eq_false (by omega)
                have HDE5 : Hid (decO l = (rls own K m0 [] r3).bind fun e => if e.2 = [] ∧ ordO K e.1 = true then some ⟨own, K, e.1⟩ else none) := by show _ = _; rw [HDE4.out, if_neg h32]
                clear HDE4
                dsimp only
                go_wp2_with fail
                clear hbc
                go_loopw [100] (fun i ws => ∃ (t : Nat) (ms : List Yq) (r : List UInt8), i = .int .u64 (t : Int) ∧ t ≤ m0 ∧ ms.length = t ∧ r.length ≤ l.length ∧ Hid (SF w ws pf q own K ms r false ∧ rls own K m0 [] r3 = rls own K (m0 - t) (ms.map ot) r)) (fun i _ => m0 - (intOf i).toNat)
                case atStart => exact ⟨0, [], r3, rfl, by omega, rfl, hr3l, Hid.mk ⟨H6.out, rfl⟩⟩
                case round =>
                  clear H6
                  obtain ⟨t, ms, r, rfl, ht, hml, hrl2, hH⟩ := hrel
                  obtain ⟨hS, hO⟩ := hH.out
                  by_cases htm : t < m0
                  · have htI : (t : Int) < (m0 : Int) := by omega
                    have H5 := Hid.mk (sf_text hS)
                    have HOO := Hid.mk hO
                    clear hH hS hO
                    go_wp2_with fail
                    refine H5.out.mono ?_
                    rintro e w5 ⟨rfl, h5⟩
                    have H6 := Hid.mk (sf_text h5)
                    clear H5 h5
                    go_wp2_with fail
                    refine H6.out.mono ?_
                    rintro e w6 ⟨rfl, h6⟩
                    clear H6
                    obtain ⟨m, hm⟩ : ∃ m, m0 - t = m + 1 := ⟨m0 - t - 1, by omega⟩
                    have HNO : Hid ((rtext (rtext r false).2.1 (rtext r false).2.2).2.2 = true ∨ decL (rtext (rtext r false).2.1 (rtext r false).2.2).1 = none ∨ (∃ x, decL (rtext (rtext r false).2.1 (rtext r false).2.2).1 = some x ∧ (x.fr ≠ own ∨ hasK K (rtext r false).1 = false)) → decO l = none) := fun h => by rw [HDE5.out, HOO.out, hm, rls_no h]; rfl
                    have HYES : Hid (∀ x, decL (rtext (rtext r false).2.1 (rtext r false).2.2).1 = some x → x.fr = own → hasK K (rtext r false).1 = true → rls own K m0 [] r3 = rls own K m (ms.map ot ++ [⟨(rtext r false).1, x⟩]) (rtext (rtext r false).2.1 (rtext r false).2.2).2.1) := fun x a b c => by rw [HOO.out, hm]; exact rls_yes a b c
                    have hl1 := rtext_rest r false
                    have hl2 := rtext_rest (rtext r false).2.1 (rtext r false).2.2
                    have HM := Hid.mk hm
                    clear HOO hm
                    generalize (rtext r false).1 = kk at *
                    generalize (rtext (rtext r false).2.1 (rtext r false).2.2).1 = tx at *
                    generalize (rtext (rtext r false).2.1 (rtext r false).2.2).2.1 = r2 at *
                    generalize (rtext (rtext r false).2.1 (rtext r false).2.2).2.2 = b2 at *
                    obtain ⟨c7, W7, hcv, hr7, k7, hz7⟩ := bytes_of w6 tx (by simp [maxLen]; omega)
                    have h7 := h6.kept0 k7
                    have H52 := Hid.mk (decode19 _ tx hr7 (fun g hg => by simp [Value.ownBlock] at hg; omega))
                    have HSZ : Hid (w.heap.size ≤ W7.heap.size) := h7.k.size
                    have H7 := Hid.mk h7
                    clear h6 k7 hr7 h7 hz7
                    go_wp2_with fail
                    refine H52.out.mono ?_
                    rintro e w8 ⟨a8, c8, rfl, hO8, k8, hf8⟩
                    clear H52 hcv
                    obtain ⟨x, hx⟩ : ∃ x, (decL tx).getD default = x := ⟨_, rfl⟩
                    rw [hx] at hO8 hf8 ⊢
                    obtain ⟨W9, e9, k9, hz9, hb9⟩ := box1 w8 (.cells #[Sv x.fr, .int .u64 (x.ser : Int), .int .i64 x.kind, .slice a8 x.args.length c8] 90)
                    have h9 := (H7.out.kept0 k8).kept0 k9
                    have hO9 := hO8.kept k9 (by simp)
                    have hbc := h9.badc
                    obtain ⟨t0, t1, t2, t3⟩ := cells4 hb9
                    obtain ⟨v9, u9, hF9⟩ := h9.isF
                    obtain ⟨au, cu, rfl, hc1, hc2⟩ := rowK_form hF9.krow
                    obtain ⟨av, cv, rfl, hv1, hv2⟩ := rowY_form hF9.ys.row
                    obtain ⟨x0, x1, x2⟩ := cells3 hF9.box
                    have HTH : Hid (∀ W, Kept [] W9 W → Calls Tryz.prog 81 #[.pointer (some ⟨pf, 0, none⟩), Sv kk] W fun e w' => e = .returned (.bool (hasK K kk)) ∧ w' = W) := fun W k => (there53 (k.cell_eq x2) (hF9.krow.kept k (by simp)) kk (by omega)).mono fun e w' h => ⟨h.1, h.2.symm⟩
                    have HF9 := Hid.mk hF9
                    have H9 := Hid.mk h9
                    have HO9 := Hid.mk hO9
                    have HFR : Hid (Fresh w (.slice a8 x.args.length c8)) := fun g hg => by have := hf8 g hg; have := HSZ.out; omega
                    have E9 := Hid.mk e9
                    clear h9 hF9 hO9 hO8 hf8 k8 k9 hz9 e9 H7
                    cases b2 with
                    | true =>
                      have HS := Hid.mk (HNO.out (.inl rfl))
                      clear HNO HYES HTH
                      generalize (if (decL tx).isSome = true then (0 : Int) else 2) = E
                      go_wp2_with fail
                      rw [E9.out]
                      go_quiet (fail)
                      have HE := Hid.mk (HN.out _ HS.out (H9.out.k.drewN nq))
                      go_wp2_with fail
                      exact HE.out
                    | false =>
                      cases hd : decL tx with
                      | none =>
                        have HS := Hid.mk (HNO.out (.inr (.inl hd)))
                        rw [show (if (none : Option Lt).isSome = true then (0 : Int) else 2) = 2 from rfl]
                        clear HNO HYES HTH hd hx
                        go_wp2_with fail
                        rw [E9.out]
                        go_quiet (fail)
                        have HE := Hid.mk (HN.out _ HS.out (H9.out.k.drewN nq))
                        go_wp2_with fail
                        exact HE.out
                      | some z =>
                        rw [hd] at hx
                        have hx : z = x := hx
                        subst hx
                        rw [show (if (some z : Option Lt).isSome = true then (0 : Int) else 2) = 0 from rfl]
                        by_cases hfr : z.fr = own
                        · rw [← hfr] at x0
                          cases hh : hasK K kk with
                          | false =>
                            have HS := Hid.mk (HNO.out (.inr (.inr ⟨z, hd, .inr hh⟩)))
                            rw [hh] at HTH
                            clear HNO HYES hd hfr hh
                            go_wp2_with fail
                            rw [E9.out]
                            go_quiet ((go_at_call 81; exact Calls.quiet_of_same (HTH.out _ ((Kept.refl [] _).drewN _))))
                            have HE := Hid.mk (HN.out _ HS.out (H9.out.k.drewN nq))
                            go_wp2_with fail
                            exact HE.out
                          | true =>
                            have HO2 := Hid.mk (HYES.out z hd hfr hh)
                            rw [hh] at HTH
                            clear HNO HYES hd hfr hh
                            go_wp2_with fail
                            rw [E9.out]
                            go_quiet ((go_at_call 81; exact Calls.quiet_of_same (HTH.out _ ((Kept.refl [] _).drewN _))))
                            have kq := (Kept.refl [] W9).drewN nq
                            have H10 := Hid.mk (H9.out.kept0 kq)
                            have hF10 := HF9.out.kept0 kq
                            have hb10 := kq.keeps hb9 (by simp)
                            have hO10 := HO9.out.kept kq (by simp)
                            generalize W9.drewN nq = V at H10 hF10 hb10 hO10 ⊢
                            clear kq x0 x1 x2 t0 t1 t2 t3 hbc E9 H9 HF9 HO9 hb9 HTH
                            have hFd := hF10.kept0 (Kept.refl [] V).drew
                            have hOd := hO10.kept (Kept.refl [] V).drew (by simp)
                            have hsz : w.heap.size ≤ V.drew.heap.size := H10.out.k.size
                            rw [hml] at hFd
                            obtain ⟨a11, c11, w11, hrun, q11, f11, hF11, k11⟩ := hFd.addY hsz ⟨kk, z, a8, c8⟩ hOd HFR.out (by omega)
                            rw [hml] at hrun hF11 k11
                            have hrun : (Builtin.append_ #[80, 80] 80 #[.slice av t cv, .slice (some ⟨V.heap.size, 0, none⟩) 1 1]).run Tryz.prog (V.alloc (.cells #[Sv kk, Sv z.fr, .int .u64 (z.ser : Int), .int .i64 z.kind, .slice a8 z.args.length c8] 93)).drew = .ok (.slice a11 (t + 1) c11) w11 := hrun
                            obtain ⟨y0, y1, y2, y3⟩ := cells4 (w := V.drew) hb10
                            have y4 : V.drew.cell? ⟨pf, 1, none⟩ = some (.slice av t cv) := (cells3 hFd.box).2.1
                            have y5 : (V.alloc (.cells #[Sv kk, Sv z.fr, .int .u64 (z.ser : Int), .int .i64 z.kind, .slice a8 z.args.length c8] 93)).drew.cell? ⟨pf, 1, none⟩ = some (.slice av t cv) := ((Kept.refl [] V.drew).alloc (.cells #[Sv kk, Sv z.fr, .int .u64 (z.ser : Int), .int .i64 z.kind, .slice a8 z.args.length c8] 93)).cell_eq y4
                            have HSF : Hid (SF w (w11.setCell ⟨pf, 1, none⟩ (.slice a11 (t + 1) c11)) pf q own K (ms ++ [⟨kk, z, a8, c8⟩]) r2 false) := (H10.out.kept0 (Kept.refl [] V).drew).turn hFd hF11 k11
                            clear hFd hF11 k11 hb10 hF10 H10 hOd hO10
                            go_wp2_with fail
                            go_region_law (first | (refine step_append_run 80 (.tmp 138) (.tmp 142) (by rfl) (by rfl) _ _ (by rfl) (by rfl) hrun ?_))
                            all_goals
                              clear hrun q11 f11 y0 y1 y2 y3 y4 y5
                              go_wp2_with fail
                              go_roundw
                              case rel =>
                                refine ⟨t + 1, ms ++ [⟨kk, z, a8, c8⟩], r2, by go_num, by omega, by rw [List.length_append, hml]; rfl, by omega, Hid.mk ⟨HSF.out, ?_⟩⟩
                                rw [HO2.out]
                                have := HM.out
                                have e : m = m0 - (t + 1) := by omega
                                rw [e]
                                simp [ot]
                              case measure => simp [intOf]; omega
                        · have hq : (z.fr == own) = false := by simpa using hfr
                          have HS := Hid.mk (HNO.out (.inr (.inr ⟨z, hd, .inl hfr⟩)))
                          clear HNO HYES HTH hd hfr
                          go_wp2_with fail
                          rw [E9.out]
                          go_quiet (fail)
                          have HE := Hid.mk (HN.out _ HS.out (H9.out.k.drewN nq))
                          go_wp2_with fail
                          exact HE.out
                  · obtain rfl : t = m0 := by omega
                    rw [Nat.sub_self, rls] at hO
                    have HDE6 : Hid (decO l = if r = [] ∧ ordO K (ms.map ot) = true then some ⟨own, K, ms.map ot⟩ else none) := by show _ = _; rw [HDE5.out, hO]; rfl
                    obtain ⟨x, hR, -⟩ := hS.rd
                    have H54 := Hid.mk (refr_end q x r false wr hR)
                    have HSF := Hid.mk hS
                    clear hH hS hO hR HDE5
                    go_wp2_with fail
                    refine H54.out.mono ?_
                    rintro e w6 ⟨rfl, rfl⟩
                    clear H54
                    cases hre : r with
                    | cons c r4 =>
                      have HS := Hid.mk (HN.out _ (by rw [HDE6.out, if_neg]; rintro ⟨h, -⟩; rw [hre] at h; cases h) HSF.out.k)
                      have e7 : (!false && (c :: r4).isEmpty) = false := rfl
                      rw [e7]
                      clear HN HY HSF HDE6 hre e7
                      go_wp2_with fail
                      exact HS.out
                    | nil =>
                      have e7 : (!false && ([] : List UInt8).isEmpty) = true := rfl
                      rw [e7]
                      obtain ⟨v6, u6, hF6⟩ := HSF.out.isF
                      have H55 := Hid.mk (ordered55 hF6 (by omega) (by omega) (fun y hy => (HKEYS.out y hy).2.2))
                      have HF6 := Hid.mk hF6
                      subst hre
                      clear hF6 e7
                      go_wp2_with fail
                      refine H55.out.mono ?_
                      rintro e w7 ⟨rfl, k7⟩
                      cases hor : ordO K (ms.map ot) with
                      | false =>
                        have HS := Hid.mk (HN.out _ (by rw [HDE6.out, if_neg]; rintro ⟨-, h⟩; rw [hor] at h; cases h) (HSF.out.k.trans k7 (by simp)))
                        clear HN HY HSF HDE6 hor H55 HF6
                        go_wp2_with fail
                        exact HS.out
                      | true =>
                        have HO : Hid (decO l = some ⟨own, K, ms.map ot⟩) := by show _ = _; rw [HDE6.out, if_pos (by first | exact ⟨rfl, hor⟩ | exact ⟨trivial, hor⟩)]
                        have HS := Hid.mk (HY.out _ pf v6 u6 ⟨own, K, ms.map ot⟩ ms HO.out (HF6.out.kept0 k7) rfl (HSF.out.k.trans k7 (by simp)))
                        clear HN HY HSF HDE6 hor H55 HF6 HO
                        go_wp2_with fail
                        exact HS.out
end
end Go.Proofs.YtdadloaifebdiaaGreat
