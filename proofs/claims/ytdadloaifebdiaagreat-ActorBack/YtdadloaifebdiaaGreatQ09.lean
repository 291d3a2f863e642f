import Derived.Test.YtdadloaifebdiaaGreatQ07
import Derived.Test.YtdadloaifebdiaaGreatQ08
/-
  The document's Take: the letter that a Reader's bytes begin with.
-/
namespace Go.Proofs.YtdadloaifebdiaaGreat
set_option maxRecDepth 100000
open Go.RowKit
set_option linter.unusedVariables false
theorem rnum_none {l : List UInt8} {bad : Bool} (h : bad = true → l = []) (hb : (rnum l bad).2.2 = true) : (rnum l bad).2.1 = [] ∧ (rnum l bad).1 = 0 := by
  unfold rnum at hb ⊢
  split at hb
  · rename_i h0
    rw [if_pos h0]
    exact ⟨rfl, rfl⟩
  · rename_i h0
    have := h hb
    subst this
    exact absurd rfl h0
theorem rtext_none {l : List UInt8} {bad : Bool} (h : bad = true → l = []) (hb : (rtext l bad).2.2 = true) : (rtext l bad).2.1 = [] := by
  unfold rtext at hb ⊢
  split at hb
  · rename_i h0
    rw [if_pos h0]
  · rename_i h0
    rw [if_neg h0]
    dsimp only at hb ⊢
    rw [(rnum_none h hb).1]
    simp
theorem rhead_none {l : List UInt8} {bad : Bool} (h : bad = true → l = []) (hb : (rhead l bad).bad = true) : (rhead l bad).n = 0 := by
  have h1 := fun hb => rtext_none (l := l) (bad := bad) h hb
  have h2 := fun hb => (rnum_none h1 hb).1
  have h3 := fun hb => (rnum_none h2 hb).1
  exact (rnum_none h3 hb).2
theorem Kept.cell_ne {b : Nat} {w w' : World} (k : Kept [b] w w') {p : Addr} {u : Value} (h : w.cell? p = some u) (hn : p.block ≠ b) : w'.cell? p = some u := by
  rw [k.cell (World.block_lt_of_cell? _ _ h) (by simpa using hn)]
  exact h
theorem kept4 (w : World) (b : Nat) (x0 x1 x2 x3 : Value) : Kept [b] w ((((w.setCell ⟨b, 0, none⟩ x0).setCell ⟨b, 1, none⟩ x1).setCell ⟨b, 2, none⟩ x2).setCell ⟨b, 3, none⟩ x3) :=
  ((((Kept.refl [b] w).setCell (p := ⟨b, 0, none⟩) (.inl (by simp)) x0).setCell (p := ⟨b, 1, none⟩) (.inl (by simp)) x1).setCell (p := ⟨b, 2, none⟩) (.inl (by simp)) x2).setCell (p := ⟨b, 3, none⟩) (.inl (by simp)) x3
section
variable {w : World}
set_option maxRecDepth 100000 in
set_option maxHeartbeats 1000000 in
theorem take37 (p : Nat) (v : Value) (l : List UInt8) (bad : Bool) (hR : IsR 132 w p v l bad) (hv : ∀ g, v.ownBlock = some g → g < w.heap.size) : Calls Tryz.prog 83 #[.pointer (some ⟨p, 0, none⟩)] w fun e w' => LetAt 132 w p v l bad e w' := by
  go_enter Tryz.func83, Tryz.ntmps83
  go_wp2_with fail
  obtain ⟨W0, e0, k0, hz0, hb0⟩ := box1 w (.cells #[.string ⟨#[]⟩, .int .u64 0, .int .i64 0, .slice none 0 0] 90)
  rw [e0]
  clear e0
  have hp := hR.lt
  refine (refr_text p v l bad W0 (hR.kept k0 (by simp) (by simp))).mono ?_
  rintro e w1 ⟨rfl, v1, hR1, k1, hV1⟩
  go_wp2_with fail
  refine (refr_any p v1 _ _ _ hR1).mono ?_
  rintro e w2 ⟨rfl, h2⟩
  obtain ⟨v2, hR2, k2, hV2⟩ := Rest.trans k1 hV1 h2
  clear hR1 k1 hV1 h2
  go_wp2_with fail
  refine (refr_int p v2 _ _ _ hR2).mono ?_
  rintro e w3 ⟨rfl, h3⟩
  obtain ⟨v3, hR3, k3, hV3⟩ := Rest.trans k2 hV2 h3
  clear hR2 k2 hV2 h3
  have hz3 := k3.size
  go_wp2_with fail
  obtain ⟨W3, e3, kW3, hzW3, hb3⟩ := box1 w3 (.cells #[Sv (rtext l bad).1, .int .u64 ((rnum (rtext l bad).2.1 (rtext l bad).2.2).1 : Int), .int .i64 (unfold (rnum (rnum (rtext l bad).2.1 (rtext l bad).2.2).2.1 (rnum (rtext l bad).2.1 (rtext l bad).2.2).2.2).1), .slice none 0 0] 90)
  rw [e3]
  clear e3
  have s3 : LS 132 w p v w.heap.size w3.heap.size W3 _ _ ⟨(rtext l bad).1, (rnum (rtext l bad).2.1 (rtext l bad).2.2).1, unfold (rnum (rnum (rtext l bad).2.1 (rtext l bad).2.2).2.1 (rnum (rtext l bad).2.1 (rtext l bad).2.2).2.2).1, []⟩ none 0 :=
    ⟨⟨v3, hR3.kept kW3 (by simp) (by simp), hV3⟩, hb3, kW3.keeps (k3.keeps hb0 (by simp; omega)) (by simp), OwnsJ.nil W3, fun g hg => by simp [Value.ownBlock] at hg, ((k0.mono (by simp)).trans k3 (fun y hy => .inl hy)).trans kW3 (by simp), hp, hv, by omega, by omega, by omega⟩
  clear hb0 hb3 kW3 hR3 k3 hV3
  obtain ⟨vi, hRi, hVi⟩ := s3.rd
  refine (refr_any p vi _ _ _ hRi).mono ?_
  rintro e w4 ⟨rfl, h4⟩
  have s4 := s3.next hVi h4
  clear h4 hRi hVi s3
  generalize w3.heap.size = lb at s4
  change LS 132 w p v w.heap.size lb w4 (rhead l bad).rest (rhead l bad).bad ⟨(rhead l bad).fr, (rhead l bad).ser, (rhead l bad).kind, []⟩ none 0 at s4
  have hN : (rnum (rnum (rnum (rtext l bad).2.1 (rtext l bad).2.2).2.1 (rnum (rtext l bad).2.1 (rtext l bad).2.2).2.2).2.1 (rnum (rnum (rtext l bad).2.1 (rtext l bad).2.2).2.1 (rnum (rtext l bad).2.1 (rtext l bad).2.2).2.2).2.2).1 = (rhead l bad).n := rfl
  rw [hN]
  clear hN
  generalize hh : rhead l bad = h at s4
  have HH := Hid.mk hh
  clear hh
  obtain ⟨c0, c1, c2, c3⟩ := cells4 s4.lbox
  obtain ⟨d0, d1, d2, d3⟩ := cells4 s4.rbox
  obtain ⟨g0, g1, g2, g3⟩ := free4 s4.rbox
  obtain ⟨vi, hRi, hVi⟩ := s4.rd
  obtain ⟨b0, b1⟩ := cell_of_two hRi.box
  have HRi := Hid.mk hRi
  clear hRi
  cases hbd : h.bad with
  | true =>
    rw [hbd] at b1
    have HB := Hid.mk hbd
    clear hbd
    go_wp2_with fail
    obtain ⟨W5, e5, k5, hb5, -⟩ := put4 s4.rbox (.string ⟨#[]⟩) (.int .u64 0) (.int .i64 0) (.slice none 0 0)
    rw [e5]
    clear e5
    refine bodyPost_ret (results_cell_row2 (p := 2) (u := 3) (ty := 90) rfl _ _ w.heap.size 90 _ (0, 0) _ rfl hb5 Tryz.underlying90 rfl (by kernel_rfl) _ rfl) rfl ?_
    have hn0 := rhead_none hR.none (by rw [HH.out]; exact HB.out)
    rw [HH.out] at hn0
    exact s4.fail k5 (by unfold rlet; rw [HH.out]; dsimp only; rw [hn0, if_neg (by omega)]; simp [rints, HB.out])
  | false =>
    rw [hbd] at b1
    by_cases hn : 4 < h.n
    · have hnI : (4 : Int) < (h.n : Int) := by omega
      go_wp2_with fail
      obtain ⟨W5, e5, k5, hb5, -⟩ := put4 s4.rbox (.string ⟨#[]⟩) (.int .u64 0) (.int .i64 0) (.slice none 0 0)
      rw [e5]
      clear e5
      refine bodyPost_ret (results_cell_row2 (p := 2) (u := 3) (ty := 90) rfl _ _ w.heap.size 90 _ (0, 0) _ rfl hb5 Tryz.underlying90 rfl (by kernel_rfl) _ rfl) rfl ?_
      exact s4.fail k5 (by unfold rlet; rw [HH.out]; dsimp only; rw [if_pos hn])
    · have hnI : ((4 : Int) < (h.n : Int)) = False := eq_false (by omega)
      clear d0 d1 d2 d3 g0 g1 g2 g3 c0 c1 c2 c3 hVi HRi hz3 hzW3
      go_wp2_with fail
      clear b0 b1
      go_loopw [25] (fun i wr => ∃ (j : Nat) (a : Option Addr) (c : Nat), i = .int .u64 (j : Int) ∧ j ≤ h.n ∧ Hid (LS 132 w p v w.heap.size lb wr (rints j h.rest h.bad).2.1 (rints j h.rest h.bad).2.2 ⟨h.fr, h.ser, h.kind, (rints j h.rest h.bad).1⟩ a c)) (fun i _ => h.n - (intOf i).toNat)
      case atStart => exact ⟨0, none, 0, rfl, by omega, Hid.mk s4⟩
      case round =>
        obtain ⟨j, a, c, rfl, hj, hs⟩ := hrel
        by_cases hlt : j < h.n
        · have hjI : (j : Int) < (h.n : Int) := by omega
          have hjl := rints_length j h.rest h.bad
          have sd := hs.out.drew
          obtain ⟨c0, c1, c2, c3⟩ := cells4 sd.lbox
          obtain ⟨vi, hRi, hVi⟩ := sd.rd
          have hC := refr_int p vi _ _ _ hRi
          have HS := Hid.mk sd
          have HV := Hid.mk hVi
          have HL := Hid.mk hjl
          clear c0 c1 c2 sd hRi hVi hs hjl
          generalize hra : rints j h.rest h.bad = r at hC HS HL c3
          have HR := Hid.mk hra
          clear hra
          go_wp2_with fail
          go_region_law (first | (refine step_append_run 88 (.tmp 28) (.tmp 31) (by rfl) (by rfl) _ _ (by rfl) (by rfl) hrun ?_) | (go_simp; go_at_call 78; refine Calls.mono hC ?_; rintro e w5 ⟨rfl, h5⟩; obtain ⟨a6, c6, w6, hrun, q3, qf, s6⟩ := (HS.out.next HV.out h5).app (unfold (rnum r.2.1 r.2.2).1) (by show r.1.length ≤ 100000; rw [HL.out]; omega); have S6 := Hid.mk s6; clear s6; have q5 := (cells4 (HS.out.next HV.out h5).lbox).2.2.2; have q6 := ((Kept.refl [] w5).alloc (.cells #[.int .i64 (unfold (rnum r.2.1 r.2.2).1)] 2)).cell_eq q5))
          all_goals
            clear hC q3 qf q5 q6 hrun c3
            go_wp2
            go_roundw
            case rel =>
              refine ⟨j + 1, a6, c6, by go_num, by omega, Hid.mk ?_⟩
              rw [rints_snoc, HR.out]
              exact S6.out
            case measure => simp [intOf]; omega
        · obtain rfl : j = h.n := by omega
          have HL : Hid (rlet l bad = if (rints h.n h.rest h.bad).2.2 = true ∨ 40 < h.fr.length then (none, (rints h.n h.rest h.bad).2.1, (rints h.n h.rest h.bad).2.2) else (some ⟨h.fr, h.ser, h.kind, (rints h.n h.rest h.bad).1⟩, (rints h.n h.rest h.bad).2.1, (rints h.n h.rest h.bad).2.2)) := by
            show _ = _
            unfold rlet
            rw [HH.out]
            dsimp only
            rw [if_neg hn]
          have hrl := rints_length h.n h.rest h.bad
          generalize rints h.n h.rest h.bad = r at hs HL hrl
          have hfm : (⟨h.fr, h.ser, h.kind, r.1⟩ : Lt).formed = decide (h.fr.length ≤ 40) := by
            unfold Lt.formed
            dsimp only
            rw [hrl]
            simp
            omega
          have HF := fun W => formed14 (w := W) ⟨h.fr, h.ser, h.kind, r.1⟩ a c
          rw [hfm] at HF
          have HF := Hid.mk HF
          clear hfm
          have HB : Hid (∀ W, LS 132 w p v w.heap.size lb W r.2.1 r.2.2 ⟨h.fr, h.ser, h.kind, r.1⟩ a c → (W.cell? ⟨lb, 0, none⟩ = some (Sv h.fr) ∧ W.cell? ⟨lb, 1, none⟩ = some (.int .u64 (h.ser : Int)) ∧ W.cell? ⟨lb, 2, none⟩ = some (.int .i64 h.kind) ∧ W.cell? ⟨lb, 3, none⟩ = some (.slice a r.1.length c) ∧ W.cell? ⟨p, 1, none⟩ = some (.bool r.2.2))) := fun W s => by
            obtain ⟨vi, hRi, -⟩ := s.rd
            obtain ⟨c0, c1, c2, c3⟩ := cells4 s.lbox
            exact ⟨c0, c1, c2, c3, (cell_of_two hRi.box).2⟩
          have sd := hs.out.drew
          have S0 := HB.out _ sd
          have hlr : lb ≠ w.heap.size := sd.hlr
          have hpr : p ≠ w.heap.size := by omega
          obtain ⟨d0, d1, d2, d3⟩ := cells4 sd.rbox
          obtain ⟨g0, g1, g2, g3⟩ := free4 sd.rbox
          have HD := Hid.mk sd
          have HR := Hid.mk hrl
          clear hrl sd
          cases hrb : r.2.2 with
          | true =>
            rw [hrb] at S0
            have HBd := Hid.mk hrb
            clear hrb
            go_wp2_with fail
            have HK : Hid (∀ W0 W, Kept [w.heap.size] W0 W → (W0.cell? ⟨lb, 0, none⟩ = some (Sv h.fr) ∧ W0.cell? ⟨lb, 1, none⟩ = some (.int .u64 (h.ser : Int)) ∧ W0.cell? ⟨lb, 2, none⟩ = some (.int .i64 h.kind) ∧ W0.cell? ⟨lb, 3, none⟩ = some (.slice a r.1.length c) ∧ W0.cell? ⟨p, 1, none⟩ = some (.bool true)) → (W.cell? ⟨lb, 0, none⟩ = some (Sv h.fr) ∧ W.cell? ⟨lb, 1, none⟩ = some (.int .u64 (h.ser : Int)) ∧ W.cell? ⟨lb, 2, none⟩ = some (.int .i64 h.kind) ∧ W.cell? ⟨lb, 3, none⟩ = some (.slice a r.1.length c) ∧ W.cell? ⟨p, 1, none⟩ = some (.bool true))) := fun W0 W k h => by
              obtain ⟨h0, h1, h2, h3, h4⟩ := h
              exact ⟨k.cell_ne h0 hlr, k.cell_ne h1 hlr, k.cell_ne h2 hlr, k.cell_ne h3 hlr, k.cell_ne h4 hpr⟩
            refine wp_region_held_drew (S := fun w' => w'.cell? ⟨lb, 0, none⟩ = some (Sv h.fr) ∧ w'.cell? ⟨lb, 1, none⟩ = some (.int .u64 (h.ser : Int)) ∧ w'.cell? ⟨lb, 2, none⟩ = some (.int .i64 h.kind) ∧ w'.cell? ⟨lb, 3, none⟩ = some (.slice a r.1.length c) ∧ w'.cell? ⟨p, 1, none⟩ = some (.bool true)) (by kernel_rfl) S0 (fun _ => ?_)
            generalize wr.drew = wd at S0 d0 d1 d2 d3 g0 g1 g2 g3 HD ⊢
            refine wpAnyH_take (i := 0) (v := (.agg #[Sv h.fr, .int .u64 (h.ser : Int), .int .i64 h.kind, .slice a r.1.length c])) rfl (by kernel_rfl) (by kernel_rfl) (by kernel_rfl) (fun _ _ _ h => h) (Or.inl ⟨by rfl, fun w hS => by have hS' : w.cell? ⟨lb, 0, none⟩ = some (Sv h.fr) ∧ w.cell? ⟨lb, 1, none⟩ = some (.int .u64 (h.ser : Int)) ∧ w.cell? ⟨lb, 2, none⟩ = some (.int .i64 h.kind) ∧ w.cell? ⟨lb, 3, none⟩ = some (.slice a r.1.length c) ∧ w.cell? ⟨p, 1, none⟩ = some (.bool true) := hS; go_simp⟩) S0 ?_
            go_simp
            refine wpAnyH_take (i := 1) (v := .pointer (some ⟨p, 0, none⟩)) rfl (by kernel_rfl) (by kernel_rfl) (by kernel_rfl) (fun _ _ _ h => h) (Or.inl ⟨by rfl, fun w hS => by have hS' : w.cell? ⟨lb, 0, none⟩ = some (Sv h.fr) ∧ w.cell? ⟨lb, 1, none⟩ = some (.int .u64 (h.ser : Int)) ∧ w.cell? ⟨lb, 2, none⟩ = some (.int .i64 h.kind) ∧ w.cell? ⟨lb, 3, none⟩ = some (.slice a r.1.length c) ∧ w.cell? ⟨p, 1, none⟩ = some (.bool true) := hS; go_simp⟩) S0 ?_
            go_simp
            refine wpAnyH_take (i := 2) (v := .pointer (some ⟨p, 0, none⟩)) rfl (by kernel_rfl) (by kernel_rfl) (by kernel_rfl) (fun _ _ _ h => h) (Or.inl ⟨by rfl, fun w hS => by have hS' : w.cell? ⟨lb, 0, none⟩ = some (Sv h.fr) ∧ w.cell? ⟨lb, 1, none⟩ = some (.int .u64 (h.ser : Int)) ∧ w.cell? ⟨lb, 2, none⟩ = some (.int .i64 h.kind) ∧ w.cell? ⟨lb, 3, none⟩ = some (.slice a r.1.length c) ∧ w.cell? ⟨p, 1, none⟩ = some (.bool true) := hS; go_simp⟩) S0 ?_
            go_simp
            refine wpAnyH_take (i := 3) (v := .pointer (some ⟨p, 1, none⟩)) rfl (by kernel_rfl) (by kernel_rfl) (by kernel_rfl) (fun _ _ _ h => h) (Or.inl ⟨by rfl, fun w hS => by have hS' : w.cell? ⟨lb, 0, none⟩ = some (Sv h.fr) ∧ w.cell? ⟨lb, 1, none⟩ = some (.int .u64 (h.ser : Int)) ∧ w.cell? ⟨lb, 2, none⟩ = some (.int .i64 h.kind) ∧ w.cell? ⟨lb, 3, none⟩ = some (.slice a r.1.length c) ∧ w.cell? ⟨p, 1, none⟩ = some (.bool true) := hS; go_simp⟩) S0 ?_
            go_simp
            refine wpAnyH_take (i := 4) (v := .bool true) rfl (by kernel_rfl) (by kernel_rfl) (by kernel_rfl) (fun _ _ _ h => h) (Or.inl ⟨by rfl, fun w hS => by have hS' : w.cell? ⟨lb, 0, none⟩ = some (Sv h.fr) ∧ w.cell? ⟨lb, 1, none⟩ = some (.int .u64 (h.ser : Int)) ∧ w.cell? ⟨lb, 2, none⟩ = some (.int .i64 h.kind) ∧ w.cell? ⟨lb, 3, none⟩ = some (.slice a r.1.length c) ∧ w.cell? ⟨p, 1, none⟩ = some (.bool true) := hS; go_simp⟩) S0 ?_
            go_simp
            refine wpAnyH_take (i := 5) (v := .bool false) rfl (by kernel_rfl) (by kernel_rfl) (by kernel_rfl) (fun _ _ _ h => h) (Or.inl ⟨by rfl, fun w hS => by have hS' : w.cell? ⟨lb, 0, none⟩ = some (Sv h.fr) ∧ w.cell? ⟨lb, 1, none⟩ = some (.int .u64 (h.ser : Int)) ∧ w.cell? ⟨lb, 2, none⟩ = some (.int .i64 h.kind) ∧ w.cell? ⟨lb, 3, none⟩ = some (.slice a r.1.length c) ∧ w.cell? ⟨p, 1, none⟩ = some (.bool true) := hS; go_simp⟩) S0 ?_
            go_simp
            refine wpAnyH_take (i := 6) (v := .bool false) rfl (by kernel_rfl) (by kernel_rfl) (by kernel_rfl) (fun _ _ _ h => h) (Or.inl ⟨by rfl, fun w hS => by have hS' : w.cell? ⟨lb, 0, none⟩ = some (Sv h.fr) ∧ w.cell? ⟨lb, 1, none⟩ = some (.int .u64 (h.ser : Int)) ∧ w.cell? ⟨lb, 2, none⟩ = some (.int .i64 h.kind) ∧ w.cell? ⟨lb, 3, none⟩ = some (.slice a r.1.length c) ∧ w.cell? ⟨p, 1, none⟩ = some (.bool true) := hS; go_simp⟩) S0 ?_
            go_simp
            refine wpAnyH_take (i := 7) (v := undef) rfl (by kernel_rfl) (by kernel_rfl) (by kernel_rfl) (fun _ _ _ h => h) (Or.inr ⟨by rfl, rfl⟩) S0 ?_
            go_simp
            refine wpAnyH_take (i := 8) (v := undef) rfl (by kernel_rfl) (by kernel_rfl) (by kernel_rfl) (fun _ _ _ h => h) (Or.inr ⟨by rfl, rfl⟩) S0 ?_
            go_simp
            refine wpAnyH_take (i := 9) (v := .bool false) rfl (by kernel_rfl) (by kernel_rfl) (by kernel_rfl) (fun _ _ _ h => h) (Or.inl ⟨by rfl, fun w hS => by have hS' : w.cell? ⟨lb, 0, none⟩ = some (Sv h.fr) ∧ w.cell? ⟨lb, 1, none⟩ = some (.int .u64 (h.ser : Int)) ∧ w.cell? ⟨lb, 2, none⟩ = some (.int .i64 h.kind) ∧ w.cell? ⟨lb, 3, none⟩ = some (.slice a r.1.length c) ∧ w.cell? ⟨p, 1, none⟩ = some (.bool true) := hS; go_simp⟩) S0 ?_
            go_simp
            refine wpAnyH_ready (rs := [10]) (by kernel_rfl) (by simp) (AllReadyH.cons rfl (fun K hK => ?_) AllReadyH.nil)
            go_simp
            refine hK.out _ _ (HK.out _ _ (kept4 _ _ _ _ _ _) S0) (fun _ => ?_)
            clear hK K
            go_simp
            refine wpAnyH_take (i := 11) (v := .bool false) rfl (by kernel_rfl) (by kernel_rfl) (by kernel_rfl) (fun _ _ _ h => h) (Or.inl ⟨by rfl, fun w hS => by have hS' : w.cell? ⟨lb, 0, none⟩ = some (Sv h.fr) ∧ w.cell? ⟨lb, 1, none⟩ = some (.int .u64 (h.ser : Int)) ∧ w.cell? ⟨lb, 2, none⟩ = some (.int .i64 h.kind) ∧ w.cell? ⟨lb, 3, none⟩ = some (.slice a r.1.length c) ∧ w.cell? ⟨p, 1, none⟩ = some (.bool true) := hS; go_simp⟩) (HK.out _ _ (kept4 _ _ _ _ _ _) S0) ?_
            go_simp
            refine wpAnyH_done (by kernel_rfl) ?_ _
            clear d0 d1 d2 d3 g0 g1 g2 g3 S0
            obtain ⟨W5, e5, k5, hb5, -⟩ := put4 HD.out.rbox (Sv h.fr) (.int .u64 (h.ser : Int)) (.int .i64 h.kind) (.slice a r.1.length c)
            rw [e5]
            clear e5
            go_wp2
            refine bodyPost_ret (results_cell_row2 (p := 2) (u := 3) (ty := 90) rfl _ _ w.heap.size 90 _ (0, 0) _ rfl hb5 Tryz.underlying90 rfl (by kernel_rfl) _ rfl) rfl ?_
            exact HD.out.told k5 (by rw [HL.out, if_pos (.inl HBd.out)]) rfl (fun y hy => by simp at hy)
          | false =>
            rw [hrb] at S0 HB
            have HBd := Hid.mk hrb
            clear hrb
            go_wp2_with fail
            have HK : Hid (∀ W0 W, Kept [w.heap.size] W0 W → (W0.cell? ⟨lb, 0, none⟩ = some (Sv h.fr) ∧ W0.cell? ⟨lb, 1, none⟩ = some (.int .u64 (h.ser : Int)) ∧ W0.cell? ⟨lb, 2, none⟩ = some (.int .i64 h.kind) ∧ W0.cell? ⟨lb, 3, none⟩ = some (.slice a r.1.length c) ∧ W0.cell? ⟨p, 1, none⟩ = some (.bool false)) → (W.cell? ⟨lb, 0, none⟩ = some (Sv h.fr) ∧ W.cell? ⟨lb, 1, none⟩ = some (.int .u64 (h.ser : Int)) ∧ W.cell? ⟨lb, 2, none⟩ = some (.int .i64 h.kind) ∧ W.cell? ⟨lb, 3, none⟩ = some (.slice a r.1.length c) ∧ W.cell? ⟨p, 1, none⟩ = some (.bool false))) := fun W0 W k h => by
              obtain ⟨h0, h1, h2, h3, h4⟩ := h
              exact ⟨k.cell_ne h0 hlr, k.cell_ne h1 hlr, k.cell_ne h2 hlr, k.cell_ne h3 hlr, k.cell_ne h4 hpr⟩
            go_region_held3 (fun w' => w'.cell? ⟨lb, 0, none⟩ = some (Sv h.fr) ∧ w'.cell? ⟨lb, 1, none⟩ = some (.int .u64 (h.ser : Int)) ∧ w'.cell? ⟨lb, 2, none⟩ = some (.int .i64 h.kind) ∧ w'.cell? ⟨lb, 3, none⟩ = some (.slice a r.1.length c) ∧ w'.cell? ⟨p, 1, none⟩ = some (.bool false)) (first | exact S0 | exact S6 | exact HK.out _ _ (kept4 _ _ _ _ _ _) S6) ((go_at_call 84; refine (HF.out _).mono ?_; rintro e w6 ⟨rfl, k6⟩; have s6 := HD.out.kept0 k6; rw [HBd.out] at s6; have S6 := HB.out _ s6; obtain ⟨e0, e1, e2, e3⟩ := cells4 s6.rbox; obtain ⟨x0, x1, x2, x3⟩ := free4 s6.rbox; have H6 := Hid.mk s6; clear s6))
            clear d0 d1 d2 d3 g0 g1 g2 g3 S0 S6 e0 e1 e2 e3 x0 x1 x2 x3
            obtain ⟨W5, e5, k5, hb5, -⟩ := put4 H6.out.rbox (Sv h.fr) (.int .u64 (h.ser : Int)) (.int .i64 h.kind) (.slice a r.1.length c)
            rw [e5]
            clear e5
            go_wp2
            refine bodyPost_ret (results_cell_row2 (p := 2) (u := 3) (ty := 90) rfl _ _ w.heap.size 90 _ (0, 0) _ rfl hb5 Tryz.underlying90 rfl (by kernel_rfl) _ rfl) rfl ?_
            by_cases hf : 40 < h.fr.length
            · exact H6.out.told k5 (by rw [HL.out, if_pos (.inr hf), HBd.out]) (by simp; omega) (fun y hy => by simp at hy)
            · exact H6.out.told k5 (by rw [HL.out, if_neg (by rw [HBd.out]; simp; omega), HBd.out]) (by simp; omega) (fun y hy => by simpa using hy)
end
end Go.Proofs.YtdadloaifebdiaaGreat
