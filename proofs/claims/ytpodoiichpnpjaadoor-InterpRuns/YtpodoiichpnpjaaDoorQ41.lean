import Derived.Deep.RegionLaw
import Derived.Test.YtpodoiichpnpjaaDoorQ38
import Derived.Test.YtpodoiichpnpjaaDoorQ40
/-
  Ours: a result, as the document has it.
-/
namespace Go.Proofs.YtpodoiichpnpjaaDoor
open Go.RowKit
set_option maxRecDepth 100000
set_option linter.unusedVariables false
def tyO : Ty := ⟨49, 85, 82, 100⟩
theorem tyO_ok : tyO.Ok := by unfold Ty.Ok tyO; decide
theorem alloc49 (W : World) : (Instr.alloc 49 true (.tuple #[])).run Tryd.prog W = .ok (.pointer (some ⟨W.heap.size, 0, none⟩)) (W.alloc (.cells z12.toArray 49)) := by kernel_rfl
theorem Out.rebase {e : TypeId} {k : Nat} {w0 w w' : World} {u : Value} {rs : List (List Value)} (h : Out e k w w' u rs) (kk : Kept [] w0 w) : Out e k w0 w' u rs := ⟨h.own, fun g hg => Nat.le_trans kk.size (h.new g hg), kk.then h.kept⟩
/-- The document's result is begun: registers, reminders and steps are there. -/
theorem fill_box {W0 w5 : World} {g : Nat} {R : Rsl} {b0 b1 b2 b3 b4 b5 b6 b7 : Int} {a' : Option Addr} {c' : Nat} (hreg : R.reg = [b0, b1, b2, b3, b4, b5, b6, b7]) (hO : Out 100 5 W0 w5 (.slice a' R.tm.length c') (rowT R.tm)) (hb : w5.heap[g]? = some (.cells z12.toArray 49 (0, 0))) (hg : W0.heap.size ≤ g) : ∃ W, (Instr.storeAt 49 (.pointer (some ⟨g, 0, none⟩)) (.agg #[.int .i64 b0, .int .i64 b1, .int .i64 b2, .int .i64 b3, .int .i64 b4, .int .i64 b5, .int .i64 b6, .int .i64 b7, .slice none 0 0, .slice none 0 0, .slice a' R.tm.length c', .int .i64 (R.k : Int)])).run Tryd.prog w5 = .ok () W ∧ RS tyO W0 W g [] R.reg [] [] R.tm R.k (.slice none 0 0) (.slice none 0 0) (.slice a' R.tm.length c') := by
  obtain ⟨W, h1, h2, h3⟩ := store_whole (P := Tryd.prog) (X := cellsR R.reg (.slice none 0 0) (.slice none 0 0) (.slice a' R.tm.length c') R.k) hb (by rw [cellsR_length, hreg]; rfl) (by rw [cellsR_length, hreg]; exact size49) (cellsR_one rfl rfl rfl)
  have kk : Kept [] W0 W := hO.kept.trans h3 (fun x hx => .inr (by simp at hx; omega))
  refine ⟨W, ?_, ⟨h2, by rw [hreg]; rfl, Out.nil kk, Out.nil kk, hO.boxed hb (by decide) hg h3, hg⟩⟩
  rw [hreg] at h1
  exact h1
section
variable {w : World}
set_option maxHeartbeats 8000000 in
theorem ours15 {n : Nat} {R : Rsl} {b0 b1 b2 b3 b4 b5 b6 b7 : Int} {ea sa ta : Option Addr} {ec sc tc : Nat} (h : Told8 n w R b0 b1 b2 b3 b4 b5 b6 b7 ea ec sa sc ta tc) (l1 : R.ev.length ≤ 900) (l2 : R.sent.length ≤ 900) (l3 : R.tm.length ≤ 900) : Calls Tryd.prog 15 #[Rval R b0 b1 b2 b3 b4 b5 b6 b7 ea ec sa sc ta tc] w fun e w' => ∃ x, e = .returned x ∧ IsRs w.heap.size w' x R ∧ Kept [] w w' := by
  obtain ⟨W0, e0, k0, hz0, hb0, hb1⟩ := box2 w (.cells #[.int .i64 b0, .int .i64 b1, .int .i64 b2, .int .i64 b3, .int .i64 b4, .int .i64 b5, .int .i64 b6, .int .i64 b7, .slice ea R.ev.length ec, .slice sa R.sent.length sc, .slice ta R.tm.length tc, .int .i64 (R.k : Int)] 37) (.cells #[.int .i64 0, .int .i64 0, .int .i64 0, .int .i64 0, .int .i64 0, .int .i64 0, .int .i64 0, .int .i64 0, .slice none 0 0, .slice none 0 0, .slice none 0 0, .int .i64 0] 49)
  have HS : Hid (∀ V, Kept [] W0 V → V.cell? ⟨w.heap.size, 0, none⟩ = some (.int .i64 b0) ∧ V.cell? ⟨w.heap.size, 1, none⟩ = some (.int .i64 b1) ∧ V.cell? ⟨w.heap.size, 2, none⟩ = some (.int .i64 b2) ∧ V.cell? ⟨w.heap.size, 3, none⟩ = some (.int .i64 b3) ∧ V.cell? ⟨w.heap.size, 4, none⟩ = some (.int .i64 b4) ∧ V.cell? ⟨w.heap.size, 5, none⟩ = some (.int .i64 b5) ∧ V.cell? ⟨w.heap.size, 6, none⟩ = some (.int .i64 b6) ∧ V.cell? ⟨w.heap.size, 7, none⟩ = some (.int .i64 b7) ∧ V.cell? ⟨w.heap.size, 10, none⟩ = some (.slice ta R.tm.length tc) ∧ V.cell? ⟨w.heap.size, 11, none⟩ = some (.int .i64 (R.k : Int))) := Hid.mk (fun V k => by
    obtain ⟨x0, x1, x2, x3, x4, x5, x6, x7, x8, x9, x10, x11⟩ := cells12 (k.keeps hb0 (by simp))
    exact ⟨x0, x1, x2, x3, x4, x5, x6, x7, x10, x11⟩)
  have HT : Hid (∀ W, Kept [] W0 W → Calls Tryd.prog 25 #[.slice ta R.tm.length tc] W fun e w' => ∃ a' c', e = .returned (.slice a' R.tm.length c') ∧ Out 100 5 W w' (.slice a' R.tm.length c') (rowT R.tm)) := Hid.mk (fun W k => timers25 (h.tm.keep (k0.then k)) l3)
  have KD : Hid (Kept [] W0 W0.drew) := Hid.mk (Kept.refl [] W0).drew
  have KA : Hid (Kept [] W0 (W0.drew.alloc (.cells z12.toArray 49))) := Hid.mk ((Kept.refl [] W0).drew.alloc _)
  have S0 := HS.out _ KD.out
  have S1 := HS.out _ KA.out
  have HREG := Hid.mk h.reg
  have HEv := Hid.mk (h.ev.keep k0)
  have HSn := Hid.mk (h.sn.keep k0)
  have HB0 := Hid.mk hb0
  have HB1 := Hid.mk hb1
  have HK0 := Hid.mk k0
  have hg0 : w.heap.size + 1 < W0.heap.size := lt_of_block hb1
  have HG0 := Hid.mk hg0
  clear h k0 hz0 hb0 hb1 hg0
  show Calls Tryd.prog 15 #[.agg #[.int .i64 b0, .int .i64 b1, .int .i64 b2, .int .i64 b3, .int .i64 b4, .int .i64 b5, .int .i64 b6, .int .i64 b7, .slice ea R.ev.length ec, .slice sa R.sent.length sc, .slice ta R.tm.length tc, .int .i64 (R.k : Int)]] w _
  go_enter Tryd.func15, Tryd.ntmps15
  go_wp2_with fail
  go_cut [3] (fun a wc => ∃ g : Nat, a = .pointer (some ⟨g, 0, none⟩) ∧ Hid (∃ u, RS tyO W0 wc g [] R.reg [] [] R.tm R.k (.slice none 0 0) (.slice none 0 0) u))
  case first =>
    refine wp_region_held_drew (S := fun V => V.cell? ⟨w.heap.size, 0, none⟩ = some (.int .i64 b0) ∧ V.cell? ⟨w.heap.size, 1, none⟩ = some (.int .i64 b1) ∧ V.cell? ⟨w.heap.size, 2, none⟩ = some (.int .i64 b2) ∧ V.cell? ⟨w.heap.size, 3, none⟩ = some (.int .i64 b3) ∧ V.cell? ⟨w.heap.size, 4, none⟩ = some (.int .i64 b4) ∧ V.cell? ⟨w.heap.size, 5, none⟩ = some (.int .i64 b5) ∧ V.cell? ⟨w.heap.size, 6, none⟩ = some (.int .i64 b6) ∧ V.cell? ⟨w.heap.size, 7, none⟩ = some (.int .i64 b7) ∧ V.cell? ⟨w.heap.size, 10, none⟩ = some (.slice ta R.tm.length tc) ∧ V.cell? ⟨w.heap.size, 11, none⟩ = some (.int .i64 (R.k : Int))) (by kernel_rfl) S0 (fun _ => ?_)
    refine wpAnyH_take (i := 0) (v := ?_) rfl (by kernel_rfl) (by kernel_rfl) (by kernel_rfl) (fun _ _ _ h => h) (Or.inl ⟨by rfl, ?_⟩) S0 ?_
    rotate_left
    · (intro w hSw; (try dsimp only at hSw); go_simp; try with_reducible rfl)
    go_simp
    refine wpAnyH_take (i := 1) (v := ?_) rfl (by kernel_rfl) (by kernel_rfl) (by kernel_rfl) (fun _ _ _ h => h) (Or.inl ⟨by rfl, ?_⟩) S0 ?_
    rotate_left
    · (intro w hSw; (try dsimp only at hSw); go_simp; try with_reducible rfl)
    go_simp
    refine wpAnyH_take (i := 2) (v := ?_) rfl (by kernel_rfl) (by kernel_rfl) (by kernel_rfl) (fun _ _ _ h => h) (Or.inl ⟨by rfl, ?_⟩) S0 ?_
    rotate_left
    · (intro w hSw; (try dsimp only at hSw); go_simp; try with_reducible rfl)
    go_simp
    refine wpAnyH_take (i := 3) (v := ?_) rfl (by kernel_rfl) (by kernel_rfl) (by kernel_rfl) (fun _ _ _ h => h) (Or.inl ⟨by rfl, ?_⟩) S0 ?_
    rotate_left
    · (intro w hSw; (try dsimp only at hSw); go_simp; try with_reducible rfl)
    go_simp
    refine wpAnyH_take (i := 4) (v := ?_) rfl (by kernel_rfl) (by kernel_rfl) (by kernel_rfl) (fun _ _ _ h => h) (Or.inl ⟨by rfl, ?_⟩) S0 ?_
    rotate_left
    · (intro w hSw; (try dsimp only at hSw); go_simp; try with_reducible rfl)
    go_simp
    refine wpAnyH_take (i := 5) (v := ?_) rfl (by kernel_rfl) (by kernel_rfl) (by kernel_rfl) (fun _ _ _ h => h) (Or.inl ⟨by rfl, ?_⟩) S0 ?_
    rotate_left
    · (intro w hSw; (try dsimp only at hSw); go_simp; try with_reducible rfl)
    go_simp
    refine wpAnyH_ready (rs := [6, 8]) (by kernel_rfl) (by simp) (AllReadyH.cons rfl (fun K hK => ?_) (AllReadyH.cons rfl (fun K hK => ?_) (AllReadyH.nil)))
    · go_simp
      refine (HT.out _ KD.out).mono ?_
      rintro e w4 ⟨a', c', rfl, hO4⟩
      have K4 := Hid.mk (KD.out.then hO4.kept)
      have S4 := HS.out w4 K4.out
      obtain ⟨W5, hst, HX⟩ := fill_box (w5 := w4.alloc (.cells z12.toArray 49)) (g := w4.heap.size) HREG.out ((hO4.rebase KD.out).keep ((Kept.refl [] w4).alloc _)) (heap_alloc_new w4 (.cells z12.toArray 49)) K4.out.size
      have HX := Hid.mk HX
      have K6 : Hid (Kept [] W0 W5) := Hid.mk HX.out.kept
      have S5 := HS.out (w4.alloc (.cells z12.toArray 49)) (K4.out.alloc _)
      have S6 := HS.out W5 K6.out
      refine hK.out _ _ S4 (fun _ => ?_)
      clear hK K
      go_simp
      refine wpAnyH_take (i := 7) (v := ?_) rfl (by kernel_rfl) (by kernel_rfl) (by kernel_rfl) (fun _ _ _ h => h) (Or.inl ⟨by rfl, ?_⟩) S4 ?_
      rotate_left
      · (intro w hSw; (try dsimp only at hSw); go_simp; try with_reducible rfl)
      go_simp
      refine wpAnyH_ready (rs := [8]) (by kernel_rfl) (by simp) (AllReadyH.cons rfl (fun K hK => ?_) (AllReadyH.nil))
      refine step_alloc_run 49 rfl rfl (alloc49 w4) (hK.out _ _ S5 (fun _ => ?_))
      clear hK K
      go_simp
      refine wpAnyH_ready (rs := [9]) (by kernel_rfl) (by simp) (AllReadyH.cons rfl (fun K hK => ?_) (AllReadyH.nil))
      refine step_store_run 49 (.tmp 3) (.tmp 13) rfl rfl _ _ rfl rfl hst (hK.out _ _ S6 (fun _ => ?_))
      clear hK K
      refine wpAnyH_done (by kernel_rfl) ?_ _
      go_wp2_with fail
      go_meet
      exact ⟨_, rfl, Hid.mk ⟨_, HX.out⟩⟩
    · refine step_alloc_run 49 rfl rfl (alloc49 W0.drew) (hK.out _ _ S1 (fun _ => ?_))
      clear hK K
      go_simp
      refine wpAnyH_ready (rs := [6]) (by kernel_rfl) (by simp) (AllReadyH.cons rfl (fun K hK => ?_) (AllReadyH.nil))
      go_simp
      refine (HT.out _ KA.out).mono ?_
      rintro e w4 ⟨a', c', rfl, hO4⟩
      have K4 := Hid.mk (KA.out.then hO4.kept)
      have S4 := HS.out w4 K4.out
      obtain ⟨W5, hst, HX⟩ := fill_box (w5 := w4) (g := W0.heap.size) HREG.out (hO4.rebase KA.out) (hO4.kept.keeps (show (W0.drew.alloc (.cells z12.toArray 49)).heap[W0.heap.size]? = _ from heap_alloc_new W0.drew (.cells z12.toArray 49)) (by simp)) (Nat.le_refl _)
      have HX := Hid.mk HX
      have K6 : Hid (Kept [] W0 W5) := Hid.mk HX.out.kept
      have S6 := HS.out W5 K6.out
      refine hK.out _ _ S4 (fun _ => ?_)
      clear hK K
      go_simp
      refine wpAnyH_take (i := 7) (v := ?_) rfl (by kernel_rfl) (by kernel_rfl) (by kernel_rfl) (fun _ _ _ h => h) (Or.inl ⟨by rfl, ?_⟩) S4 ?_
      rotate_left
      · (intro w hSw; (try dsimp only at hSw); go_simp; try with_reducible rfl)
      go_simp
      go_simp
      refine wpAnyH_ready (rs := [9]) (by kernel_rfl) (by simp) (AllReadyH.cons rfl (fun K hK => ?_) (AllReadyH.nil))
      refine step_store_run 49 (.tmp 3) (.tmp 13) rfl rfl _ _ rfl rfl hst (hK.out _ _ S6 (fun _ => ?_))
      clear hK K
      refine wpAnyH_done (by kernel_rfl) ?_ _
      go_wp2_with fail
      go_meet
      exact ⟨_, rfl, Hid.mk ⟨_, HX.out⟩⟩
  case rest =>
  obtain ⟨g, ra, HX⟩ := hcut
  subst ra
  obtain ⟨u, HX⟩ := HX.out
  have HX1 : Hid (RS tyO W0 wc g [] R.reg (R.ev.take 0) [] R.tm R.k (.slice none 0 0) (.slice none 0 0) u) := Hid.mk HX
  have hB8 : wc.cell? ⟨w.heap.size, 8, none⟩ = some (.slice ea R.ev.length ec) := by
    obtain ⟨x0, x1, x2, x3, x4, x5, x6, x7, x8, x9, x10, x11⟩ := cells12 (HX.kept.keeps HB0.out (by simp))
    exact x8
  clear HX S0 S1 HS HT KD KA
  go_wp2_with fail
  go_loopw [17] (fun i wr => ∃ (j : Nat) (u1 : Value), i = .int .i64 (j : Int) ∧ j ≤ R.ev.length ∧ Hid (RS tyO W0 wr g [] R.reg (R.ev.take j) [] R.tm R.k u1 (.slice none 0 0) u)) (fun i _ => R.ev.length - (intOf i).toNat)
  case atStart => exact ⟨0, _, rfl, by omega, HX1⟩
  case round =>
    obtain ⟨j, u1, rfl, hj, HB⟩ := hrel
    by_cases hlt : j < R.ev.length
    · have hltI : (j : Int) < (R.ev.length : Int) := by omega
      have hj0 : (0 : Int) ≤ (j : Int) := by omega
      have hy : R.ev[j]? = some R.ev[j] := List.getElem?_eq_getElem hlt
      have KD := (Kept.refl [] wr).drew
      have HD := HB.out.keep KD
      have htl : (R.ev.take j).length = j := by rw [List.length_take]; omega
      obtain ⟨xa, xc, rfl, -, -⟩ := HD.ev.form
      rw [rowE_length, htl] at HD HB
      have KB := HB.out.kept.then KD
      have s9 : wr.drew.cell? ⟨w.heap.size, 8, none⟩ = some (.slice ea R.ev.length ec) := by
        obtain ⟨x0, x1, x2, x3, x4, x5, x6, x7, x8, x9, x10, x11⟩ := cells12 (KB.keeps HB0.out (by simp))
        exact x8
      obtain ⟨b, o, rfl, s0, s1⟩ := rowE_at (HEv.out.keep KB) hy
      obtain ⟨ad, cc, w2, hrun, r0, r1, hR, -, -⟩ := HD.addEv2 rt45F tyO_ok (by rw [htl]; omega) R.ev[j] 8 rfl 85 (0, 0) 45
      rw [htl] at hrun hR
      have e8 : R.ev.take (j + 1) = R.ev.take j ++ [R.ev[j]] := by rw [List.take_add_one, hy]; rfl
      rw [← e8] at hR
      have hrun' : (Builtin.append_ #[45, 45] 45 #[.slice xa j xc, .slice (some ⟨wr.heap.size, 0, none⟩) 1 1]).run Tryd.prog (wr.alloc (.cells #[.int .i64 (R.ev[j].r : Int), .int .i64 R.ev[j].v] 85)).drew = .ok (.slice ad (j + 1) cc) w2 := hrun
      have S0 : wr.drew.cell? ⟨g, 8, none⟩ = some (.slice xa j xc) := HD.cell_res rfl (cellsR_ev HD.r8)
      have S1 : (wr.alloc (.cells #[.int .i64 (R.ev[j].r : Int), .int .i64 R.ev[j].v] 85)).drew.cell? ⟨g, 8, none⟩ = some (.slice xa j xc) := (((Kept.refl [] wr).alloc (.cells #[.int .i64 (R.ev[j].r : Int), .int .i64 R.ev[j].v] 85)).drew).cell_eq (HB.out.cell_res rfl (cellsR_ev HB.out.r8))
      have HN := Hid.mk hR
      clear hR HD e8 hrun htl hy KB KD
      generalize R.ev[j].v = y0 at *
      generalize (R.ev[j].r : Int) = yr at *
      go_wp2_with fail
      go_region_law ((refine step_append_run 45 (.tmp 21) (.tmp 27) (by rfl) (by rfl) _ _ (by rfl) (by rfl) hrun' ?_))
      all_goals
        generalize w2.setCell ⟨g, 8, none⟩ (.slice ad (j + 1) cc) = W7 at *
        go_wp2_with fail
        go_roundw
        case rel => exact ⟨j + 1, _, by go_num, by omega, HN⟩
        case measure => simp [intOf]; omega
    · have hltI : ¬ (j : Int) < (R.ev.length : Int) := by omega
      obtain rfl : j = R.ev.length := by omega
      rw [List.take_length] at HB
      have hB8 : wr.cell? ⟨w.heap.size, 9, none⟩ = some (.slice sa R.sent.length sc) := by
        obtain ⟨x0, x1, x2, x3, x4, x5, x6, x7, x8, x9, x10, x11⟩ := cells12 (HB.out.kept.keeps HB0.out (by simp))
        exact x9
      obtain ⟨ev1, hev1⟩ : ∃ ev1, u1 = ev1 := ⟨_, rfl⟩
      rw [hev1] at HB
      clear hev1
      have HX2 : Hid (RS tyO W0 wr g [] R.reg R.ev (R.sent.take 0) R.tm R.k ev1 (.slice none 0 0) u) := HB
      clear HB
      go_wp2_with fail
      go_loopw [34] (fun i wr => ∃ (j : Nat) (u1 : Value), i = .int .i64 (j : Int) ∧ j ≤ R.sent.length ∧ Hid (RS tyO W0 wr g [] R.reg R.ev (R.sent.take j) R.tm R.k ev1 u1 u)) (fun i _ => R.sent.length - (intOf i).toNat)
      case atStart => exact ⟨0, _, rfl, by omega, HX2⟩
      case round =>
        obtain ⟨j, u1, rfl, hj, HB⟩ := hrel
        by_cases hlt : j < R.sent.length
        · have hltI : (j : Int) < (R.sent.length : Int) := by omega
          have hj0 : (0 : Int) ≤ (j : Int) := by omega
          have hy : R.sent[j]? = some R.sent[j] := List.getElem?_eq_getElem hlt
          have KD := (Kept.refl [] wr).drew
          have HD := HB.out.keep KD
          have htl : (R.sent.take j).length = j := by rw [List.length_take]; omega
          obtain ⟨xa, xc, rfl, -, -⟩ := HD.sn.form
          rw [rowS_length, htl] at HD HB
          have KB := HB.out.kept.then KD
          have s9 : wr.drew.cell? ⟨w.heap.size, 9, none⟩ = some (.slice sa R.sent.length sc) := by
            obtain ⟨x0, x1, x2, x3, x4, x5, x6, x7, x8, x9, x10, x11⟩ := cells12 (KB.keeps HB0.out (by simp))
            exact x9
          obtain ⟨b, o, rfl, s0, s1, s2⟩ := rowSn_at (HSn.out.keep KB) hy
          obtain ⟨ad, cc, w2, hrun, r0, r1, hR, -, -⟩ := HD.addSn2 rt46F tyO_ok (by rw [htl]; omega) R.sent[j] 9 rfl 82 (0, 0) 46
          rw [htl] at hrun hR
          have e8 : R.sent.take (j + 1) = R.sent.take j ++ [R.sent[j]] := by rw [List.take_add_one, hy]; rfl
          rw [← e8] at hR
          have hrun' : (Builtin.append_ #[46, 46] 46 #[.slice xa j xc, .slice (some ⟨wr.heap.size, 0, none⟩) 1 1]).run Tryd.prog (wr.alloc (.cells #[.string ⟨R.sent[j].to.toArray⟩, .int .i64 R.sent[j].kind, .int .i64 R.sent[j].arg] 82)).drew = .ok (.slice ad (j + 1) cc) w2 := hrun
          have S0 : wr.drew.cell? ⟨g, 9, none⟩ = some (.slice xa j xc) := HD.cell_res rfl (cellsR_sn HD.r8)
          have S1 : (wr.alloc (.cells #[.string ⟨R.sent[j].to.toArray⟩, .int .i64 R.sent[j].kind, .int .i64 R.sent[j].arg] 82)).drew.cell? ⟨g, 9, none⟩ = some (.slice xa j xc) := (((Kept.refl [] wr).alloc (.cells #[.string ⟨R.sent[j].to.toArray⟩, .int .i64 R.sent[j].kind, .int .i64 R.sent[j].arg] 82)).drew).cell_eq (HB.out.cell_res rfl (cellsR_sn HB.out.r8))
          have HN := Hid.mk hR
          clear hR HD e8 hrun htl hy KB KD
          generalize R.sent[j].to = y0 at *
          generalize R.sent[j].kind = y1 at *
          generalize R.sent[j].arg = y2 at *
          go_wp2_with fail
          go_region_law ((refine step_append_run 46 (.tmp 38) (.tmp 44) (by rfl) (by rfl) _ _ (by rfl) (by rfl) hrun' ?_))
          all_goals
            generalize w2.setCell ⟨g, 9, none⟩ (.slice ad (j + 1) cc) = W7 at *
            go_wp2_with fail
            go_roundw
            case rel => exact ⟨j + 1, _, by go_num, by omega, HN⟩
            case measure => simp [intOf]; omega
        · have hltI : ¬ (j : Int) < (R.sent.length : Int) := by omega
          obtain rfl : j = R.sent.length := by omega
          rw [List.take_length] at HB
          have hld : (Instr.loadAt 49 (.pointer (some ⟨g, 0, none⟩))).run Tryd.prog wr = .ok (.agg (cellsR R.reg ev1 u1 u R.k).toArray) wr := load_mid 0 (pre := []) HB.out.box rfl 49 _ rfl Tryd.underlying49 (by rw [cellsR_length, HB.out.r8]; exact size49)
          obtain ⟨ea9, ec9, f1, -, -⟩ := HB.out.ev.form
          obtain ⟨sa9, sc9, f2, -, -⟩ := HB.out.sn.form
          obtain ⟨ta9, tc9, f3, -, -⟩ := HB.out.tm.form
          obtain ⟨W6, hst, hb6, k6⟩ := store_whole (P := Tryd.prog) (t := 49) (X := cellsR R.reg ev1 u1 u R.k) (HB.out.kept.keeps HB1.out (by simp)) (by rw [cellsR_length, HB.out.r8]; rfl) (by rw [cellsR_length, HB.out.r8]; exact size49) (cellsR_one (by rw [f1]; rfl) (by rw [f2]; rfl) (by rw [f3]; rfl))
          have HGG := HG0.out
          have HRES : Hid (IsRs w.heap.size W6 (.agg (cellsR R.reg ev1 u1 u R.k).toArray) R ∧ Kept [] w W6) := Hid.mk ⟨⟨⟨ev1, u1, u, rfl, (HB.out.ev.own.reads (wideE _)).kept k6 (fun g' h1 h2 => by have := HB.out.ev.new g' h1; simp at h2; omega), (HB.out.sn.own.reads (wideS _)).kept k6 (fun g' h1 h2 => by have := HB.out.sn.new g' h1; simp at h2; omega), (HB.out.tm.own.reads (wideT _)).kept k6 (fun g' h1 h2 => by have := HB.out.tm.new g' h1; simp at h2; omega), fun g' h' => by have := HB.out.ev.new g' h'; omega, fun g' h' => by have := HB.out.sn.new g' h'; omega, fun g' h' => by have := HB.out.tm.new g' h'; omega⟩, HB.out.r8⟩, (HK0.out.then HB.out.kept).trans k6 (fun x hx => .inr (by simp at hx; omega))⟩
          have HSZ : Hid ((cellsR R.reg ev1 u1 u R.k).length = 12) := by show (cellsR R.reg ev1 u1 u R.k).length = 12; rw [cellsR_length, HB.out.r8]
          clear f1 f2 f3 k6 HGG
          generalize cellsR R.reg ev1 u1 u R.k = X at *
          go_wp2_with (first | (refine wpList_load_run 49 (.tmp 3) rfl rfl _ rfl _ hld ?_) | (refine wpList_store_run 49 (.tmp 2) (.tmp 48) rfl rfl _ _ rfl rfl _ hst ?_))
          refine bodyPost_ret (results_cell_row (p := 2) (ty := 49) rfl _ _ (w.heap.size + 1) 49 _ (0, 0) _ rfl hb6 Tryd.underlying49 rfl (by rw [List.size_toArray, HSZ.out]; exact size49)) rfl ?_
          exact ⟨_, rfl, HRES.out⟩
end
end Go.Proofs.YtpodoiichpnpjaaDoor
/-
  Results that are the same: Same.
-/
namespace Go.Proofs.YtpodoiichpnpjaaDoor
open Go.RowKit
set_option maxRecDepth 100000
set_option linter.unusedVariables false
section
variable {w : World}
set_option maxHeartbeats 4000000 in
theorem same14 {n1 n2 : Nat} {R : Rsl} {b0 b1 b2 b3 b4 b5 b6 b7 : Int} {ea sa ta ea' sa' ta' : Option Addr} {ec sc tc ec' sc' tc' : Nat} (h1 : Told8 n1 w R b0 b1 b2 b3 b4 b5 b6 b7 ea ec sa sc ta tc) (h2 : Told8 n2 w R b0 b1 b2 b3 b4 b5 b6 b7 ea' ec' sa' sc' ta' tc') : Calls Tryd.prog 14 #[Rval R b0 b1 b2 b3 b4 b5 b6 b7 ea ec sa sc ta tc, Rval R b0 b1 b2 b3 b4 b5 b6 b7 ea' ec' sa' sc' ta' tc'] w fun e w' => e = .returned (.bool true) ∧ Kept [] w w' := by
  obtain ⟨W0, e0, k0, hz0, hb0, hb1⟩ := box2 w (.cells #[.int .i64 b0, .int .i64 b1, .int .i64 b2, .int .i64 b3, .int .i64 b4, .int .i64 b5, .int .i64 b6, .int .i64 b7, .slice ea R.ev.length ec, .slice sa R.sent.length sc, .slice ta R.tm.length tc, .int .i64 (R.k : Int)] 49) (.cells #[.int .i64 b0, .int .i64 b1, .int .i64 b2, .int .i64 b3, .int .i64 b4, .int .i64 b5, .int .i64 b6, .int .i64 b7, .slice ea' R.ev.length ec', .slice sa' R.sent.length sc', .slice ta' R.tm.length tc', .int .i64 (R.k : Int)] 49)
  have H23 : Hid (∀ W, Kept [] W0 W → Calls Tryd.prog 23 #[.slice ea R.ev.length ec, .slice ea' R.ev.length ec'] W fun e w' => e = .returned (.bool true) ∧ Kept [] W w') := Hid.mk (fun W k => same23 (h1.ev.keep (k0.then k)) (h2.ev.keep (k0.then k)))
  have H24 : Hid (∀ W, Kept [] W0 W → Calls Tryd.prog 24 #[.slice ta R.tm.length tc, .slice ta' R.tm.length tc'] W fun e w' => e = .returned (.bool true) ∧ Kept [] W w') := Hid.mk (fun W k => same24 (h1.tm.keep (k0.then k)) (h2.tm.keep (k0.then k)))
  have HSn := Hid.mk (h1.sn.keep k0)
  have HSn' := Hid.mk (h2.sn.keep k0)
  have hl1 : R.ev.length ≤ 9223372036854775807 := by obtain ⟨_, _, e, h2, h3⟩ := h1.ev.form; rw [rowE_length] at h2; omega
  have hl2 : R.sent.length ≤ 9223372036854775807 := by obtain ⟨_, _, e, h2, h3⟩ := h1.sn.form; rw [rowS_length] at h2; omega
  have hl3 : R.tm.length ≤ 9223372036854775807 := by obtain ⟨_, _, e, h2, h3⟩ := h1.tm.form; rw [rowT_length] at h2; omega
  have HB0 := Hid.mk hb0
  have HB1 := Hid.mk hb1
  have HK0 := Hid.mk k0
  have hEq := equal26 b0 b1 b2 b3 b4 b5 b6 b7 W0
  obtain ⟨x0, x1, x2, x3, x4, x5, x6, x7, x8, x9, x10, x11⟩ := cells12 hb0
  obtain ⟨y0, y1, y2, y3, y4, y5, y6, y7, y8, y9, y10, y11⟩ := cells12 hb1
  clear h1 h2 k0 hz0 hb0 hb1
  show Calls Tryd.prog 14 #[.agg #[.int .i64 b0, .int .i64 b1, .int .i64 b2, .int .i64 b3, .int .i64 b4, .int .i64 b5, .int .i64 b6, .int .i64 b7, .slice ea R.ev.length ec, .slice sa R.sent.length sc, .slice ta R.tm.length tc, .int .i64 (R.k : Int)], .agg #[.int .i64 b0, .int .i64 b1, .int .i64 b2, .int .i64 b3, .int .i64 b4, .int .i64 b5, .int .i64 b6, .int .i64 b7, .slice ea' R.ev.length ec', .slice sa' R.sent.length sc', .slice ta' R.tm.length tc', .int .i64 (R.k : Int)]] w _
  go_enter Tryd.func14, Tryd.ntmps14
  go_wp2_with (go_at_call 23; refine (H23.out W0 (Kept.refl [] W0)).mono ?_; rintro e w2 ⟨rfl, k2⟩; have K2 := Hid.mk k2; obtain ⟨-, -, -, -, -, -, -, -, u8, u9, u10, u11⟩ := cells12 (k2.keeps HB0.out (by simp)); obtain ⟨-, -, -, -, -, -, -, -, v8, v9, v10, v11⟩ := cells12 (k2.keeps HB1.out (by simp)); clear k2)
  clear x0 x1 x2 x3 x4 x5 x6 x7 x8 x9 x10 x11 y0 y1 y2 y3 y4 y5 y6 y7 y8 y9 y10 y11 hEq e0
  go_loopw [47] (fun i wr => ∃ j : Nat, i = .int .i64 (j : Int) ∧ j ≤ R.sent.length ∧ Hid (Kept [] w2 wr)) (fun i _ => R.sent.length - (intOf i).toNat)
  case atStart => exact ⟨0, rfl, by omega, Hid.mk (Kept.refl [] w2)⟩
  case round =>
    obtain ⟨j, rfl, hj, HK⟩ := hrel
    by_cases hlt : j < R.sent.length
    · have hltI : (j : Int) < (R.sent.length : Int) := by omega
      have hj0 : (0 : Int) ≤ (j : Int) := by omega
      have hy : R.sent[j]? = some R.sent[j] := List.getElem?_eq_getElem hlt
      have KD := HK.out.drew
      have c9 := KD.cell_eq u9
      have d9 := KD.cell_eq v9
      obtain ⟨b, o, rfl, s0, s1, s2⟩ := rowSn_at (HSn.out.keep (K2.out.then KD)) hy
      obtain ⟨b', o', rfl, r0, r1, r2⟩ := rowSn_at (HSn'.out.keep (K2.out.then KD)) hy
      have HN := Hid.mk KD
      clear KD hy
      generalize R.sent[j].to = st at *
      generalize R.sent[j].kind = sk at *
      generalize R.sent[j].arg = sg at *
      go_wp2_with fail
      go_region
      go_wp2_with fail
      go_roundw
      case rel => exact ⟨j + 1, by go_num, by omega, HN⟩
      case measure => simp [intOf]; omega
    · have hltI : ¬ (j : Int) < (R.sent.length : Int) := by omega
      have c10 := HK.out.cell_eq u10
      have d10 := HK.out.cell_eq v10
      go_wp2_with (go_at_call 24; refine (H24.out _ (K2.out.then HK.out)).mono ?_; rintro e w5 ⟨rfl, k5⟩; have K5 := Hid.mk k5; clear k5)
      go_ret
      exact ⟨rfl, HK0.out.then (K2.out.then (HK.out.then K5.out))⟩
end
end Go.Proofs.YtpodoiichpnpjaaDoor
