import Derived.Deep.QuietTactic
import Derived.BigQuiet
import Derived.Test.YtpodoiichpnpjaaDoorQ16
import Derived.Test.YtpodoiichpnpjaaDoorQ17
/-
  The program's machine: step.
-/
namespace Go.Proofs.YtpodoiichpnpjaaDoor
open Go.RowKit
set_option maxRecDepth 100000
set_option linter.unusedVariables false
section
variable {B : Bs} {w w' : World} {p : Nat} {m : Mc} {k : Nat} {stk : List Int} {ev sn tm : Value}
theorem MS.c_k (h : MS B w p m k stk ev sn tm) : w.cell? ⟨p, 36, none⟩ = some (Iv (k : Int)) := h.rs.cell_res (by rw [h.len]) (cellsR_k h.rs.r8)
theorem MS.put_k (h : MS B w p m k stk ev sn tm) (q : Nat) : MS B (w.setCell ⟨p, 36, none⟩ (Iv (q : Int))) p m q stk ev sn tm := ⟨h.s16, h.top, h.rs.put_k tyM_ok (by rw [h.len]) rfl⟩
set_option maxHeartbeats 2000000 in
theorem step19_out (h : MSt B w p m 500) : Calls Tryd.prog 19 #[.pointer (some ⟨p, 0, none⟩)] w fun e w' => e = .returned (.int .i64 11) ∧ MSt B w' p m 500 := by
  have HM := Hid.mk h
  obtain ⟨stk, ev, sn, tm, h⟩ := h
  have c0 := h.c_k
  clear h
  go_enter Tryd.func19, Tryd.ntmps19
  go_wp2_with fail
  go_ret
  exact ⟨rfl, HM.out⟩
/-- Where an instruction lies. -/
theorem MS.c_ins (hB : B.Ok) (h : MS B w p m k stk ev sn tm) {x : In} (hx : B.pg.code[m.at_]? = some x) : ∃ b o d, w.cell? ⟨p, 1, none⟩ = some (.slice (some ⟨b, o, none⟩) B.pg.code.length d) ∧ w.cell? ⟨b, o + m.at_ * 2, none⟩ = some (.int .i64 x.op) ∧ w.cell? ⟨b, o + m.at_ * 2 + 1, none⟩ = some (.int .i64 x.arg) := by
  obtain ⟨b, d, c0, e0⟩ := h.c_code hB
  have hN := (hB.prog.keep h.rs.kept).code
  rw [e0] at hN
  obtain ⟨hl, he⟩ := List.getElem?_eq_some_iff.1 hx
  obtain ⟨b, o, rfl, hc⟩ := code_at hN hl
  rw [he] at hc
  exact ⟨b, o, d, c0, hc⟩
theorem eff_le {i : Nat} : (effI i).1 ≤ 2 ∧ (effI i).2 ≤ 2 := by
  unfold effI
  repeat' (split)
  all_goals (constructor <;> decide)
set_option maxHeartbeats 4000000 in
theorem step19_t {i : Nat} {arg : Int} (hG : B.Good) (h : MSt B w p m k) (hx : B.pg.code[m.at_]? = some ⟨(i : Int), arg⟩) (hk : k < 500) (hF : Fit B.pg i arg) (hL : Lite m) : Calls Tryd.prog 19 #[.pointer (some ⟨p, 0, none⟩)] w fun e w' => ∃ c, e = .returned (.int .i64 c) ∧ OuC B p (k + 1) (oneI B.pg B.l B.now m ⟨(i : Int), arg⟩) c w' := by
  obtain ⟨stk, ev, sn, tm, h⟩ := h
  have c0 := h.c_k
  have f0 := h.rs.free 36
  have h1 := h.put_k (k + 1)
  obtain ⟨b, o, d, c1, c2, c3⟩ := h1.c_ins hG.ok hx
  have c4 := h1.c_at
  have hat : m.at_ < B.pg.code.length := (List.getElem?_eq_some_iff.1 hx).1
  have hat2 : m.at_ < 200 := by have := hG.few; omega
  have q0 : (0 : Int) ≤ (m.at_ : Int) := by omega
  have q1 : (m.at_ : Int) < (B.pg.code.length : Int) := by omega
  have qk : ((k : Int) == 500) = false := by simp only [beq_eq_false_iff_ne, ne_eq]; omega
  have qk2 : ¬ (k : Int) = 500 := by omega
  dsimp only at c2 c3
  rw [show ((k + 1 : Nat) : Int) = (k : Int) + 1 by omega] at *
  have e1 : ∃ w1, w.setCell ⟨p, 36, none⟩ (Iv ((k : Int) + 1)) = w1 := ⟨_, rfl⟩
  obtain ⟨w1, e1⟩ := e1
  rw [e1] at c1 c2 c3 c4 h1
  have SP : Hid (∀ W, Kept [] w1 W → W.cell? ⟨p, 1, none⟩ = some (.slice (some ⟨b, o, none⟩) B.pg.code.length d) ∧ W.cell? ⟨p, 7, none⟩ = some (Iv (m.at_ : Int)) ∧ W.cell? ⟨b, o + m.at_ * 2, none⟩ = some (.int .i64 (i : Int)) ∧ W.cell? ⟨b, o + m.at_ * 2 + 1, none⟩ = some (.int .i64 arg)) := fun W kk => ⟨kk.cell_eq c1, kk.cell_eq c4, kk.cell_eq c2, kk.cell_eq c3⟩
  have HE := Hid.mk e1
  clear e1 c1 c2 c3 c4
  go_enter Tryd.func19, Tryd.ntmps19
  go_wp2_with fail
  rw [HE.out]
  go_region_held3 (fun V => V.cell? ⟨p, 1, none⟩ = some (.slice (some ⟨b, o, none⟩) B.pg.code.length d) ∧ V.cell? ⟨p, 7, none⟩ = some (Iv (m.at_ : Int)) ∧ V.cell? ⟨b, o + m.at_ * 2, none⟩ = some (.int .i64 (i : Int)) ∧ V.cell? ⟨b, o + m.at_ * 2 + 1, none⟩ = some (.int .i64 arg)) (first | exact SP.out _ (Kept.refl [] _).drew | exact SP.out _ ((Kept.refl [] _).alloc _).drew) (fail)
  obtain ⟨W2, e2⟩ : ∃ W2, (w1.alloc (.cells #[.int .i64 (i : Int), .int .i64 arg] 60)).drew = W2 := ⟨_, rfl⟩
  rw [e2]
  have k2 : Kept [] w1 W2 := by rw [← e2]; exact ((Kept.refl [] _).alloc _).drew
  have hb2 : W2.heap[w1.heap.size]? = some (.cells #[.int .i64 (i : Int), .int .i64 arg] 60) := by rw [← e2]; exact heap_alloc_new w1 _
  have h2 := h1.keep k2
  have hpg : p ≠ w1.heap.size := Nat.ne_of_lt (lt_of_block h1.rs.box)
  clear e2 SP HE c0 f0
  generalize w1.heap.size = g at *
  have c5 := h2.c_at
  have f5 := h2.rs.free 7
  have q3 : ((m.at_ + 1 : Nat) : Int) = (m.at_ : Int) + 1 := by omega
  obtain ⟨W3, e3⟩ : ∃ W3, W2.setCell ⟨p, 7, none⟩ (Iv ((m.at_ : Int) + 1)) = W3 := ⟨_, rfl⟩
  have h3 := h2.put_at (m.at_ + 1)
  rw [q3, e3] at h3
  have k3 : Kept [p] W2 W3 := by rw [← e3]; exact (Kept.refl [p] W2).setCell (.inl (by simp)) _
  have hb3 := k3.keeps hb2 (by simpa using Ne.symm hpg)
  have HE3 := Hid.mk e3
  clear e3 q3
  go_wp2_with fail
  rw [HE3.out]
  obtain ⟨z0, z1⟩ := cells2 hb3
  have HB := Hid.mk hb3
  have hle := h3.le
  dsimp only at hle
  have HM := Hid.mk h3
  have c6 : W3.cell? ⟨p, 24, none⟩ = some (Iv (m.st.length : Int)) := by
    obtain ⟨_, _, _, _, h5⟩ := h3
    exact h5.dep
  have HT := Hid.mk (fun W => takes28 (w := W) hF.op)
  have HP := Hid.mk (fun W => pushes29 (w := W) hF.op)
  have ht2 : (effI i).1 ≤ 2 := eff_le.1
  have hg2 : (effI i).2 ≤ 2 := eff_le.2
  have HO : Hid (∀ t gv, t = (effI i).1 → gv = (effI i).2 → oneI B.pg B.l B.now m ⟨(i : Int), arg⟩ = (if m.st.length < t ∨ 16 < m.st.length - t + gv then .err 10 else if t = 2 then actI B.pg B.l B.now { m with at_ := m.at_ + 1, st := m.st.dropLast.dropLast } i gv arg (m.st.dropLast.getLastD 0) (m.st.getLastD 0) else if t = 1 then actI B.pg B.l B.now { m with at_ := m.at_ + 1, st := m.st.dropLast } i gv arg (m.st.getLastD 0) 0 else actI B.pg B.l B.now { m with at_ := m.at_ + 1 } i gv arg 0 0)) := fun t gv e1 e2 => by subst e1 e2; rfl
  have HR : Hid (∀ gv, gv = (effI i).2 → 0 < gv → ∀ (W : World) (m' : Mc) (x y : Int), MSt B W p m' (k + 1) → m'.st.length + gv ≤ 16 → Calls Tryd.prog 31 #[.pointer (some ⟨p, 0, none⟩), .agg #[.int .i64 (i : Int), .int .i64 arg], .int .i64 x, .int .i64 y] W fun e w' => e = .returned (.tuple #[]) ∧ ∃ m2, actI B.pg B.l B.now m' i gv arg x y = .go m2 ∧ MSt B w' p m2 (k + 1)) := fun gv e1 h0 W m' x y hM hl => by subst e1; exact reckon31_any hG hM hF x y h0 hl
  have HA : Hid (∀ gv, gv = (effI i).2 → gv = 0 → ∀ (W : World) (m' : Mc) (x y : Int), MSt B W p m' (k + 1) → Lite m' → Calls Tryd.prog 32 #[.pointer (some ⟨p, 0, none⟩), .agg #[.int .i64 (i : Int), .int .i64 arg], .int .i64 x, .int .i64 y] W fun e w' => ∃ c, e = .returned (.int .i64 c) ∧ OuC B p (k + 1) (actI B.pg B.l B.now m' i gv arg x y) c w') := fun gv e1 h0 W m' x y hM hl => by subst e1; exact act32_any hG hM hF x y h0 hl
  generalize (effI i).1 = t at *
  generalize (effI i).2 = gv at *
  have HO2 := Hid.mk (HO.out t gv rfl rfl)
  have HR := Hid.mk (HR.out gv rfl)
  have HA := Hid.mk (HA.out gv rfl)
  clear HO h3 h2 h1 hb3 hb2 k2 k3 HE3 c5 f5 hx hF hG
  have q5 : IntKind.i64.wrap ((m.st.length : Int) - (t : Int)) = (m.st.length : Int) - (t : Int) := w64_small _ (by omega)
  have q7 : IntKind.i64.wrap ((m.st.length : Int) - (t : Int) + (gv : Int)) = (m.st.length : Int) - (t : Int) + (gv : Int) := w64_small _ (by omega)
  go_quiet ((go_at_call 28; exact Calls.quiet_of_same ((HT.out _).mono fun e w' h => ⟨h.1, h.2.symm⟩)))
  have hb5 : (W3.drewN nq).heap[g]? = some (.cells #[.int .i64 (i : Int), .int .i64 arg] 60) := HB.out
  obtain ⟨v0, v1⟩ := cells2 hb5
  have HM5 := Hid.mk (HM.out.keep ((Kept.refl [] W3).drewN nq))
  have HB5 := Hid.mk hb5
  have HPG := Hid.mk hpg
  clear z0 z1 HB HM c6 hb5
  generalize W3.drewN nq = W4 at *
  by_cases hlt : m.st.length < t
  · have hI : (m.st.length : Int) - (t : Int) < 0 := by omega
    have HO3 := Hid.mk (HO2.out.trans (if_pos (.inl hlt)))
    clear HO2 HR HA HT
    go_wp2_with (go_at_call 29; refine (HP.out _).mono ?_; rintro e w9 ⟨rfl, rfl⟩)
    go_ret
    exact ⟨_, rfl, by rw [HO3.out]; exact ⟨rfl, _, HM5.out⟩⟩
  · have hI : ¬ (m.st.length : Int) - (t : Int) < 0 := by omega
    by_cases hgt : 16 < m.st.length - t + gv
    · have hI2 : (16 : Int) < (m.st.length : Int) - (t : Int) + (gv : Int) := by omega
      have HO3 := Hid.mk (HO2.out.trans (if_pos (.inr hgt)))
      clear HO2 HR HA HT
      go_wp2_with (go_at_call 29; refine (HP.out _).mono ?_; rintro e w9 ⟨rfl, rfl⟩)
      go_ret
      exact ⟨_, rfl, by rw [HO3.out]; exact ⟨rfl, _, HM5.out⟩⟩
    · have hI2 : ¬ (16 : Int) < (m.st.length : Int) - (t : Int) + (gv : Int) := by omega
      have HO3 := Hid.mk (HO2.out.trans (if_neg (by omega)))
      have HL := Hid.mk hL
      have hG3 : t = 0 ∨ t = 1 ∨ t = 2 := by omega
      clear HO2
      rcases hG3 with rfl | rfl | rfl
      · have HO4 := Hid.mk (HO3.out.trans ((if_neg (by omega)).trans (if_neg (by omega))))
        by_cases hg0 : 0 < gv
        · have hgI : (0 : Int) < (gv : Int) := by omega
          have HC := Hid.mk (HR.out hg0 W4 _ 0 0 HM5.out (by show m.st.length + gv ≤ 16; omega))
          clear HR HA HO3
          go_wp2_with (first | (go_at_call 29; refine (HP.out _).mono ?_; rintro e w9 ⟨rfl, rfl⟩) | (go_at_call 28; refine (HT.out _).mono ?_; rintro e w9 ⟨rfl, rfl⟩) | (go_at_call 31; refine HC.out.mono ?_; rintro e w9 ⟨rfl, m2, r1, r2⟩))
          go_ret
          exact ⟨_, rfl, by rw [HO4.out, r1]; exact ⟨rfl, r2⟩⟩
        · have hgI : ¬ (0 : Int) < (gv : Int) := by omega
          have HC := Hid.mk (HA.out (by omega) W4 _ 0 0 HM5.out HL.out)
          clear HR HA HO3
          go_wp2_with (first | (go_at_call 29; refine (HP.out _).mono ?_; rintro e w9 ⟨rfl, rfl⟩) | (go_at_call 28; refine (HT.out _).mono ?_; rintro e w9 ⟨rfl, rfl⟩) | (go_at_call 32; refine HC.out.mono ?_; rintro e w9 ⟨cc, rfl, r2⟩))
          go_ret
          exact ⟨_, rfl, by rw [HO4.out]; exact r2⟩
      · have HO4 := Hid.mk (HO3.out.trans ((if_neg (by omega)).trans (if_pos rfl)))
        have hne : m.st ≠ [] := fun e => hlt (by rw [e]; simp)
        have HPO := Hid.mk (pop30 HM5.out hne)
        have hdl : m.st.dropLast.length = m.st.length - 1 := by simp
        have HDL := Hid.mk hdl
        clear hdl hne
        dsimp only at HPO
        generalize m.st.getLastD 0 = x at *
        by_cases hg0 : 0 < gv
        · have hgI : (0 : Int) < (gv : Int) := by omega
          go_wp2_with (first | (go_at_call 29; refine (HP.out _).mono ?_; rintro e w9 ⟨rfl, rfl⟩) | (go_at_call 28; refine (HT.out _).mono ?_; rintro e w9 ⟨rfl, rfl⟩) | (go_at_call 30; refine HPO.out.mono ?_; rintro e w5 ⟨rfl, h5, k5⟩; have hb6 := k5.keeps HB5.out (by simpa using Ne.symm HPG.out); have t0 := (cells2 hb6).1; have t1 := (cells2 hb6).2; clear hb6) | (go_at_call 31; refine (HR.out hg0 w5 _ x 0 h5 (by show m.st.dropLast.length + gv ≤ 16; rw [HDL.out]; omega)).mono ?_; rintro e w9 ⟨rfl, m2, r1, r2⟩))
          go_ret
          exact ⟨_, rfl, by rw [HO4.out, r1]; exact ⟨rfl, r2⟩⟩
        · have hgI : ¬ (0 : Int) < (gv : Int) := by omega
          go_wp2_with (first | (go_at_call 29; refine (HP.out _).mono ?_; rintro e w9 ⟨rfl, rfl⟩) | (go_at_call 28; refine (HT.out _).mono ?_; rintro e w9 ⟨rfl, rfl⟩) | (go_at_call 30; refine HPO.out.mono ?_; rintro e w5 ⟨rfl, h5, k5⟩; have hb6 := k5.keeps HB5.out (by simpa using Ne.symm HPG.out); have t0 := (cells2 hb6).1; have t1 := (cells2 hb6).2; clear hb6) | (go_at_call 32; refine (HA.out (by omega) w5 _ x 0 h5 HL.out).mono ?_; rintro e w9 ⟨cc, rfl, r2⟩))
          go_ret
          exact ⟨_, rfl, by rw [HO4.out]; exact r2⟩
      · have HO4 := Hid.mk (HO3.out.trans (if_pos rfl))
        have hne : m.st ≠ [] := fun e => hlt (by rw [e]; simp)
        have hdl : m.st.dropLast.length = m.st.length - 1 := by simp
        have hne2 : m.st.dropLast ≠ [] := fun e => by rw [e] at hdl; simp at hdl; omega
        have hdl2 : m.st.dropLast.dropLast.length = m.st.length - 2 := by simp; omega
        have HPO := Hid.mk (pop30 HM5.out hne)
        have HP2 : Hid (∀ W, MSt B W p { m with at_ := m.at_ + 1, st := m.st.dropLast } (k + 1) → Calls Tryd.prog 30 #[.pointer (some ⟨p, 0, none⟩)] W fun e w' => e = .returned (.int .i64 (m.st.dropLast.getLastD 0)) ∧ MSt B w' p { m with at_ := m.at_ + 1, st := m.st.dropLast.dropLast } (k + 1) ∧ Kept [p] W w') := fun W hW => pop30 hW hne2
        have HDL := Hid.mk hdl2
        clear hdl hne hdl2 hne2
        dsimp only at HPO
        generalize m.st.getLastD 0 = y at *
        generalize m.st.dropLast.getLastD 0 = x at *
        by_cases hg0 : 0 < gv
        · have hgI : (0 : Int) < (gv : Int) := by omega
          go_wp2_with (first | (go_at_call 29; refine (HP.out _).mono ?_; rintro e w9 ⟨rfl, rfl⟩) | (go_at_call 28; refine (HT.out _).mono ?_; rintro e w9 ⟨rfl, rfl⟩) | (go_at_call 30; with_reducible refine HPO.out.mono ?_; rintro e w5 ⟨rfl, h5, k5⟩) | (go_at_call 30; refine (HP2.out w5 h5).mono ?_; rintro e w6 ⟨rfl, h6, k6⟩; have hb6 := k6.keeps (k5.keeps HB5.out (by simpa using Ne.symm HPG.out)) (by simpa using Ne.symm HPG.out); have t0 := (cells2 hb6).1; have t1 := (cells2 hb6).2; clear hb6) | (go_at_call 31; refine (HR.out hg0 w6 _ x y h6 (by show m.st.dropLast.dropLast.length + gv ≤ 16; rw [HDL.out]; omega)).mono ?_; rintro e w9 ⟨rfl, m2, r1, r2⟩))
          go_ret
          exact ⟨_, rfl, by rw [HO4.out, r1]; exact ⟨rfl, r2⟩⟩
        · have hgI : ¬ (0 : Int) < (gv : Int) := by omega
          go_wp2_with (first | (go_at_call 29; refine (HP.out _).mono ?_; rintro e w9 ⟨rfl, rfl⟩) | (go_at_call 28; refine (HT.out _).mono ?_; rintro e w9 ⟨rfl, rfl⟩) | (go_at_call 30; with_reducible refine HPO.out.mono ?_; rintro e w5 ⟨rfl, h5, k5⟩) | (go_at_call 30; refine (HP2.out w5 h5).mono ?_; rintro e w6 ⟨rfl, h6, k6⟩; have hb6 := k6.keeps (k5.keeps HB5.out (by simpa using Ne.symm HPG.out)) (by simpa using Ne.symm HPG.out); have t0 := (cells2 hb6).1; have t1 := (cells2 hb6).2; clear hb6) | (go_at_call 32; refine (HA.out (by omega) w6 _ x y h6 HL.out).mono ?_; rintro e w9 ⟨cc, rfl, r2⟩))
          go_ret
          exact ⟨_, rfl, by rw [HO4.out]; exact r2⟩
end
end Go.Proofs.YtpodoiichpnpjaaDoor
