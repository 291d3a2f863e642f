import Derived.Test.YtibapmjgpnldgaaGreatDoorQ32
import Derived.Test.YtibapmjgpnldgaaGreatDoorQ33
/-
  The document's Decode of a program.
-/
namespace Go.Proofs.YtibapmjgpnldgaaGreatDoor
set_option maxRecDepth 100000
open Go.RowKit
set_option linter.unusedVariables false
section
variable {w : World}
set_option maxHeartbeats 4000000 in
theorem decode23 (v : Value) (l : List UInt8) (hr : Reads w v l) (hin : Inside w v) (hl : l.length ≤ 140737488355328) : Calls Tryz.prog 26 #[v] w fun e w' => DecAt w l e w' := by
  have HN : Hid (∀ W, decPg l = none → Kept [] w W → DecAt w l (.returned (.tuple #[.agg #[.slice none 0 0, .slice none 0 0], .int .i64 2])) W) := fun W h k => .inl ⟨h, rfl, k⟩
  have HY : Hid (∀ W p v u, decPg l = some p → IsP W v u p → Kept [] w W → DecAt w l (.returned (.tuple #[.agg #[v, u], .int .i64 0])) W) := fun W p v u h1 h2 h3 => .inr ⟨p, v, u, h1, rfl, h2, h3⟩
  generalize DecAt w l = R at HN HY ⊢
  obtain ⟨W1, e1, k1, hz1, hb1⟩ := box1 w (.cells #[.slice none 0 0, .slice none 0 0] 25)
  have HB1 := Hid.mk hb1
  have HK1 := Hid.mk k1
  have HIn := Hid.mk hin
  have HRd := Hid.mk (of_any v l W1 (hr.kept k1 (by simp)) (fun g hg => by have := hin g hg; omega))
  have HF : Hid (∀ (p : Pg) (v u : Value) W, Kept [] W1 W → IsP W v u p → (∀ s ∈ p.names, s.length ≤ 9223372036854775807) → Calls Tryz.prog 40 #[.agg #[v, u]] W fun e w' => e = .returned (.bool (formedP p)) ∧ Kept [] W w') := fun p v u W k hP hK => formed14 hP hK
  have hg2 : w.heap.size < W1.heap.size := by omega
  clear hb1 k1 hz1 hr hin
  go_enter Tryz.func26, Tryz.ntmps26
  go_wp2_with fail
  have HG2 : Hid (∀ W W5, Kept [] W1 W → Kept [w.heap.size] W W5 → Kept [] w W5) := fun W W5 k k5 => (HK1.out.then k).trans k5 (fun y hy => by simp at hy; subst hy; exact .inr (Nat.le_refl _))
  have HB2 : Hid (∀ W, Kept [] W1 W → W.heap[w.heap.size]? = some (.cells #[.slice none 0 0, .slice none 0 0] 25 (0, 0))) := fun W k => k.keeps HB1.out (by simp)
  have HNo : Hid (∀ W, decPg l = none → Kept [] W1 W → ∀ W5, Kept [w.heap.size] W W5 → R (.returned (.tuple #[.agg #[.slice none 0 0, .slice none 0 0], .int .i64 2])) W5) := fun W h k W5 k5 => HN.out W5 h (HG2.out W W5 k k5)
  refine HRd.out.mono ?_
  rintro e w1 ⟨q, rfl, hR1, k1, hq1⟩
  obtain ⟨W2, e2, k2, hz2, hb2⟩ := box1 w1 (.cells #[.slice none 0 0, .slice none 0 0] 25)
  have t1 : PR 105 25 53 W2.heap.size W1 W2 w1.heap.size q (.slice none 0 0) (.slice none 0 0) ⟨[], []⟩ l false := ⟨by unfold TyOk; decide, hb2, OwnsR.nil _ _ _, fun g hg => by simp [Value.ownBlock] at hg, OwnsR.nil _ _ _, fun g hg => by simp [Value.ownBlock] at hg, ⟨v, hR1.kept k2 (by simp) (by simp), fun g hg => by have := HIn.out g hg; have := k1.size; omega⟩, Nat.le_trans k1.size k2.size, Nat.le_refl _, k1.size, hq1, k1.then k2⟩
  have H2 := Hid.mk (dr_num t1)
  have HI := Hid.mk (NInv.start l)
  have hv64 := rnum_lt l false
  have hrl := rnum_len l false
  obtain ⟨⟨n, r0, b0⟩, hx⟩ : ∃ x, rnum l false = x := ⟨_, rfl⟩
  rw [hx] at H2 HI hv64 hrl
  dsimp only at H2 HI hv64 hrl
  have hB1 : w.heap.size < W2.heap.size := by have := k1.size; have := k2.size; omega
  clear t1 hR1 hx HRd hq1 k1 k2 hz2 hb2 HIn
  go_wp2_with fail
  generalize W2.heap.size = B at *
  generalize w1.heap.size = g at *
  generalize w.heap.size = g2 at *
  refine H2.out.mono ?_
  rintro e w2 ⟨rfl, t2⟩
  have HT2 := Hid.mk t2
  clear t2 H2
  by_cases h8 : 8 < n
  · have h8I : (8 : Int) < (n : Int) := by omega
    have HD := Hid.mk (HI.out.big h8)
    obtain ⟨d0, d1⟩ := cells2 (HB2.out w2 HT2.out.k)
    obtain ⟨f0, f1⟩ := free2 (HB2.out w2 HT2.out.k)
    go_wp2_with fail
    obtain ⟨W5, e5, k5, hb5⟩ := put2 (HB2.out w2 HT2.out.k) (.slice none 0 0) (.slice none 0 0)
    rw [e5]
    clear e5
    refine bodyPost_ret (results_cell_row2 (p := 2) (u := 3) (ty := 25) rfl _ _ g2 25 _ (0, 0) _ rfl hb5 Tryz.underlying25 rfl (by kernel_rfl) _ rfl) rfl ?_
    exact HNo.out _ HD.out HT2.out.k _ k5
  have h8I : ¬ (8 : Int) < (n : Int) := by omega
  go_wp2_with fail
  go_loopw [16] (fun i wr => ∃ (k : Nat) (N : List (List UInt8)) (v u : Value) (r : List UInt8) (bad : Bool), i = .int .u64 (k : Int) ∧ k ≤ n ∧ Hid (N.length = k) ∧ Hid (PR 105 25 53 B W1 wr g q v u ⟨N, []⟩ r bad ∧ NInv l n k N r bad ∧ (∀ s ∈ N, s.length ≤ l.length) ∧ r.length ≤ l.length)) (fun i _ => n - (intOf i).toNat)
  case atStart => exact ⟨0, [], _, _, r0, b0, rfl, by omega, Hid.mk rfl, Hid.mk ⟨HT2.out, HI.out, by simp, hrl⟩⟩
  case round =>
    clear HT2 HI hrl
    obtain ⟨k, N, v2, u2, r, bad, rfl, hk, HL, hH⟩ := hrel
    obtain ⟨hS, hI, hlN, hlr⟩ := hH.out
    by_cases hlt : k < n
    · have hkI : (k : Int) < (n : Int) := by omega
      have HC := Hid.mk (dr_text (hS.kept0 (Kept.refl [] wr).drew))
      have HII := Hid.mk (hI.step hlt)
      have hrl := rtext_len r bad
      obtain ⟨⟨x, r2, b2⟩, hx⟩ : ∃ x, rtext r bad = x := ⟨_, rfl⟩
      rw [hx] at HC HII hrl
      dsimp only at HC HII hrl
      obtain ⟨va, vc, ua, uc, rfl, rfl⟩ := hS.forms
      dsimp only at hS hH HC ⊢
      have hc0 : wr.drew.cell? ⟨g, 0, none⟩ = some (.slice va N.length vc) := (hS.kept0 (Kept.refl [] wr).drew).c0
      have HLN : Hid ((∀ s ∈ N ++ [x], s.length ≤ l.length) ∧ r2.length ≤ l.length) := ⟨fun s hs => by
        rcases List.mem_append.1 hs with h | h
        · exact hlN s h
        · simp at h; subst h; omega, by omega⟩
      have HLL := Hid.mk (show N.length ≤ 900000 by rw [HL.out]; omega)
      clear hH hS hI hx hlN hlr hrl
      go_wp2_with fail
      go_region_law (first | (refine step_append_run 22 (.tmp 19) (.tmp 22) (by rfl) (by rfl) _ _ (by rfl) (by rfl) hrun ?_) | (go_simp; go_at_call 51; refine Calls.mono HC.out ?_; rintro e w5 ⟨rfl, h5⟩; obtain ⟨a6, c6, w6, hrun, q3, qf, s6⟩ := h5.addName HLL.out x 9 (0, 0) 22; have S6 := Hid.mk s6; clear s6; have q5 := h5.c0; have q6 := ((Kept.refl [] w5).alloc (.cells #[.string ⟨x.toArray⟩] 9)).cell_eq q5))
      all_goals
        clear q3 qf q5 q6 hrun hc0
        go_wp2_with fail
        go_roundw
        case rel => exact ⟨k + 1, N ++ [x], _, _, r2, b2, by go_num, by omega, Hid.mk (by rw [List.length_append, HL.out]; rfl), Hid.mk ⟨S6.out, HII.out, HLN.out.1, HLN.out.2⟩⟩
        case measure => simp [intOf]; omega
    · have hkI : ¬ (k : Int) < (n : Int) := by omega
      obtain rfl : k = n := by omega
      have HC := Hid.mk (dr_num hS)
      have HII := Hid.mk (CInv.start hI h8)
      have hn64 := rnum_lt r bad
      have hrl := rnum_len r bad
      obtain ⟨⟨m, r2, b2⟩, hx⟩ : ∃ x, rnum r bad = x := ⟨_, rfl⟩
      rw [hx] at HC HII hn64 hrl
      dsimp only at HC HII hn64 hrl
      have HLN := Hid.mk hlN
      clear hH hS hI hx hlN hlr hrl
      go_wp2_with fail
      refine HC.out.mono ?_
      rintro e w5 ⟨rfl, t5⟩
      have HT5 := Hid.mk t5
      clear t5 HC
      have cb := HT5.out.badc
      cases b2 with
      | true =>
        have HD := Hid.mk (HII.out.1 rfl)
        obtain ⟨d0, d1⟩ := cells2 (HB2.out w5 HT5.out.k)
        obtain ⟨f0, f1⟩ := free2 (HB2.out w5 HT5.out.k)
        go_wp2_with fail
        obtain ⟨W5, e5, k5, hb5⟩ := put2 (HB2.out w5 HT5.out.k) (.slice none 0 0) (.slice none 0 0)
        rw [e5]
        clear e5
        refine bodyPost_ret (results_cell_row2 (p := 2) (u := 3) (ty := 25) rfl _ _ g2 25 _ (0, 0) _ rfl hb5 Tryz.underlying25 rfl (by kernel_rfl) _ rfl) rfl ?_
        exact HNo.out _ HD.out HT5.out.k _ k5
      | false =>
      by_cases h200 : 200 < m
      · have h2I : (200 : Int) < (m : Int) := by omega
        have HD := Hid.mk (HII.out.big h200)
        obtain ⟨d0, d1⟩ := cells2 (HB2.out w5 HT5.out.k)
        obtain ⟨f0, f1⟩ := free2 (HB2.out w5 HT5.out.k)
        go_wp2_with fail
        obtain ⟨W5, e5, k5, hb5⟩ := put2 (HB2.out w5 HT5.out.k) (.slice none 0 0) (.slice none 0 0)
        rw [e5]
        clear e5
        refine bodyPost_ret (results_cell_row2 (p := 2) (u := 3) (ty := 25) rfl _ _ g2 25 _ (0, 0) _ rfl hb5 Tryz.underlying25 rfl (by kernel_rfl) _ rfl) rfl ?_
        exact HNo.out _ HD.out HT5.out.k _ k5
      have h2I : ¬ (200 : Int) < (m : Int) := by omega
      go_wp2_with fail
      clear cb
      go_loopw [38] (fun i wr => ∃ (k : Nat) (C : List In) (v u : Value) (r : List UInt8) (bad : Bool), i = .int .u64 (k : Int) ∧ k ≤ m ∧ Hid (C.length = k) ∧ Hid (PR 105 25 53 B W1 wr g q v u ⟨N, C⟩ r bad ∧ CInv l N m k C r bad)) (fun i _ => m - (intOf i).toNat)
      case atStart => exact ⟨0, [], _, _, r2, false, rfl, by omega, Hid.mk rfl, Hid.mk ⟨HT5.out, HII.out⟩⟩
      case round =>
        clear HT5 HII
        obtain ⟨j, C, v3, u3, r, bad, rfl, hj, HLC, hH⟩ := hrel
        obtain ⟨hS, hI⟩ := hH.out
        by_cases hlt2 : j < m
        · have hjI : (j : Int) < (m : Int) := by omega
          have HC := Hid.mk (dr_num hS)
          have HNx : Hid (23 < (rnum r bad).1 → decPg l = none) := fun h => hI.no hlt2 h200 h
          have HYS : Hid (¬ 23 < (rnum r bad).1 → CInv l N m (j + 1) (C ++ [⟨((rnum r bad).1 : Int), unfold (rnum (rnum r bad).2.1 (rnum r bad).2.2).1⟩]) (rnum (rnum r bad).2.1 (rnum r bad).2.2).2.1 (rnum (rnum r bad).2.1 (rnum r bad).2.2).2.2) := fun h => hI.yes hlt2 h
          have hx64 := rnum_lt r bad
          obtain ⟨⟨x, r3, b3⟩, hx⟩ : ∃ x, rnum r bad = x := ⟨_, rfl⟩
          rw [hx] at HC HNx HYS hx64
          dsimp only at HC HNx HYS hx64
          clear hH hS hI hx
          go_wp2_with fail
          refine HC.out.mono ?_
          rintro e w6 ⟨rfl, t6⟩
          clear HC
          by_cases h7 : 23 < x
          · have h7I : (23 : Int) < (x : Int) := by omega
            have HD := Hid.mk (HNx.out h7)
            have HT6 := Hid.mk t6.k
            obtain ⟨d0, d1⟩ := cells2 (HB2.out w6 HT6.out)
            obtain ⟨f0, f1⟩ := free2 (HB2.out w6 HT6.out)
            clear t6
            go_wp2_with fail
            obtain ⟨W5, e5, k5, hb5⟩ := put2 (HB2.out w6 HT6.out) (.slice none 0 0) (.slice none 0 0)
            rw [e5]
            clear e5
            refine bodyPost_ret (results_cell_row2 (p := 2) (u := 3) (ty := 25) rfl _ _ g2 25 _ (0, 0) _ rfl hb5 Tryz.underlying25 rfl (by kernel_rfl) _ rfl) rfl ?_
            exact HNo.out _ HD.out HT6.out _ k5
          have h7I : ¬ (23 : Int) < (x : Int) := by omega
          have HBx := Hid.mk (HYS.out h7)
          have HC := Hid.mk (dr_int (t6.kept0 (Kept.refl [] w6).drew))
          obtain ⟨⟨y, r4, b4⟩, hy⟩ : ∃ x, rnum r3 b3 = x := ⟨_, rfl⟩
          rw [hy] at HC HBx
          dsimp only at HC HBx
          generalize unfold y = z at *
          have hw : IntKind.i64.wrap (x : Int) = (x : Int) := by rw [IntKind.wrap_i64]; omega
          obtain ⟨va, vc, ua, uc, rfl, rfl⟩ := t6.forms
          dsimp only at t6 HC ⊢
          have hc1 : w6.drew.cell? ⟨g, 1, none⟩ = some (.slice ua C.length uc) := (t6.kept0 (Kept.refl [] w6).drew).c1
          have HLL := Hid.mk (show C.length ≤ 900000 by rw [HLC.out]; omega)
          clear t6 HNx HYS hy
          go_wp2_with fail
          go_region_law (first | (refine step_append_run 23 (.tmp 46) (.tmp 52) (by rfl) (by rfl) _ _ (by rfl) (by rfl) hrun ?_) | (go_simp; go_at_call 52; refine Calls.mono HC.out ?_; rintro e w8 ⟨rfl, h5⟩; obtain ⟨a6, c6, w9, hrun, q3, qf, s6⟩ := h5.addCode rt23 HLL.out ⟨(x : Int), z⟩ 53 (0, 0) 23; have S6 := Hid.mk s6; clear s6; have q5 := h5.c1; have q6 := ((Kept.refl [] w8).alloc (.cells #[.int .i64 (x : Int), .int .i64 z] 53)).cell_eq q5))
          all_goals
            clear q3 qf q5 q6 hrun hc1
            go_wp2_with fail
            go_roundw
            case rel => exact ⟨j + 1, C ++ [⟨(x : Int), z⟩], _, _, r4, b4, by go_num, by omega, Hid.mk (by rw [List.length_append, HLC.out]; rfl), Hid.mk ⟨S6.out, HBx.out⟩⟩
            case measure => simp [intOf]; omega
        · have hjI : ¬ (j : Int) < (m : Int) := by omega
          obtain rfl : j = m := by omega
          have hdec := hI.fin h200
          have HE := Hid.mk (dr_end hS)
          have HFm := Hid.mk (fun W (h : PR 105 25 53 B W1 W g q v3 u3 ⟨N, C⟩ r bad) => HF.out ⟨N, C⟩ v3 u3 W h.k h.isP (fun s hs => by have := HLN.out s hs; omega))
          obtain ⟨va, vc, ua, uc, rfl, rfl⟩ := hS.forms
          dsimp only at HE HFm ⊢
          clear hH hI hS HF
          cases hb : (!bad && r.isEmpty) with
          | false =>
            rw [hb] at HE hdec
            have HD : Hid (decPg l = none) := by show _ = _; rw [hdec, if_neg (by simp)]
            clear hdec hb
            go_wp2_with fail
            refine HE.out.mono ?_
            rintro e w9 ⟨rfl, t9⟩
            have HT9 := Hid.mk t9.k
            obtain ⟨d0, d1⟩ := cells2 (HB2.out w9 HT9.out)
            obtain ⟨f0, f1⟩ := free2 (HB2.out w9 HT9.out)
            clear t9 HE
            go_wp2_with fail
            obtain ⟨W5, e5, k5, hb5⟩ := put2 (HB2.out w9 HT9.out) (.slice none 0 0) (.slice none 0 0)
            rw [e5]
            clear e5
            refine bodyPost_ret (results_cell_row2 (p := 2) (u := 3) (ty := 25) rfl _ _ g2 25 _ (0, 0) _ rfl hb5 Tryz.underlying25 rfl (by kernel_rfl) _ rfl) rfl ?_
            exact HNo.out _ HD.out HT9.out _ k5
          | true =>
            rw [hb] at HE hdec
            clear hb
            cases hf : formedP ⟨N, C⟩ with
            | false =>
              rw [hf] at hdec HFm
              have HD : Hid (decPg l = none) := by show _ = _; rw [hdec, if_neg (by simp)]
              clear hdec hf
              go_wp2_with fail
              refine HE.out.mono ?_
              rintro e w9 ⟨rfl, t9⟩
              have HC9 := Hid.mk (HFm.out w9 t9)
              have x0 := t9.c0
              have x1 := t9.c1
              have HT9 := Hid.mk t9.k
              clear t9 HE HFm
              go_wp2_with fail
              refine HC9.out.mono ?_
              rintro e w10 ⟨rfl, k10⟩
              have HT10 := Hid.mk (HT9.out.then k10)
              obtain ⟨d0, d1⟩ := cells2 (HB2.out w10 HT10.out)
              obtain ⟨f0, f1⟩ := free2 (HB2.out w10 HT10.out)
              clear k10 x0 x1
              go_wp2_with fail
              obtain ⟨W5, e5, k5, hb5⟩ := put2 (HB2.out w10 HT10.out) (.slice none 0 0) (.slice none 0 0)
              rw [e5]
              clear e5
              refine bodyPost_ret (results_cell_row2 (p := 2) (u := 3) (ty := 25) rfl _ _ g2 25 _ (0, 0) _ rfl hb5 Tryz.underlying25 rfl (by kernel_rfl) _ rfl) rfl ?_
              exact HNo.out _ HD.out HT10.out _ k5
            | true =>
              rw [hf] at hdec HFm
              have HD : Hid (decPg l = some ⟨N, C⟩) := by show _ = _; rw [hdec, if_pos ⟨rfl, rfl⟩]
              clear hdec hf
              go_wp2_with fail
              refine HE.out.mono ?_
              rintro e w9 ⟨rfl, t9⟩
              have HC9 := Hid.mk (HFm.out w9 t9)
              have x0 := t9.c0
              have x1 := t9.c1
              have HT9 := Hid.mk t9
              clear t9 HE HFm
              go_wp2_with fail
              refine HC9.out.mono ?_
              rintro e w10 ⟨rfl, k10⟩
              have HT10 := Hid.mk (HT9.out.kept0 k10)
              obtain ⟨d0, d1⟩ := cells2 (HB2.out w10 HT10.out.k)
              obtain ⟨f0, f1⟩ := free2 (HB2.out w10 HT10.out.k)
              have z0 := HT10.out.c0
              have z1 := HT10.out.c1
              clear k10 x0 x1 HT9 HC9
              go_wp2_with fail
              obtain ⟨W5, e5, k5, hb5⟩ := put2 (HB2.out w10 HT10.out.k) (.slice va N.length vc) (.slice ua C.length uc)
              rw [e5]
              clear e5
              refine bodyPost_ret (results_cell_row2 (p := 2) (u := 3) (ty := 25) rfl _ _ g2 25 _ (0, 0) _ rfl hb5 Tryz.underlying25 rfl (by kernel_rfl) _ rfl) rfl ?_
              refine HY.out _ ⟨N, C⟩ _ _ HD.out ⟨HT10.out.isP.names.kept k5 (fun g' h hm => ?_), HT10.out.isP.code.kept k5 (fun g' h hm => ?_)⟩ (HG2.out _ _ HT10.out.k k5)
              · have := HT10.out.nN g' h; simp at hm; omega
              · have := HT10.out.nC g' h; simp at hm; omega
end
end Go.Proofs.YtibapmjgpnldgaaGreatDoor
