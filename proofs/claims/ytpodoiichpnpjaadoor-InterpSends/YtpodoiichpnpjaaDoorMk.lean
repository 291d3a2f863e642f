/-
  The program's machine: send, remind, cancel.
-/
import Derived.Test.YtpodoiichpnpjaaDoorMj
namespace Go.Proofs.YtpodoiichpnpjaaDoor
open Go.RowKit
set_option maxRecDepth 100000
set_option linter.unusedVariables false
section
variable {B : Bs} {w w' : World} {p : Nat} {m : Mc} {k : Nat} {stk : List Int} {ev sn tm : Value}
theorem MS.c_sn (h : MS B w p m k stk ev sn tm) : w.cell? ⟨p, 34, none⟩ = some sn := h.rs.cell_res (by rw [h.len]) (cellsR_sn h.rs.r8)
theorem MS.c_tm (h : MS B w p m k stk ev sn tm) : w.cell? ⟨p, 35, none⟩ = some tm := h.rs.cell_res (by rw [h.len]) (cellsR_tm h.rs.r8)
/-- A letter more. -/
theorem MS.addSn (h : MS B w p m k stk ev sn tm) (hl : m.sent.length ≤ 900) (x : Sn) : ∃ ad c w2, (Builtin.append_ #[34, 34] 34 #[sn, .slice (some ⟨w.heap.size, 0, none⟩) 1 1]).run Tryd.prog (w.alloc (.cells #[.string ⟨x.to.toArray⟩, .int .i64 x.kind, .int .i64 x.arg] 65)) = .ok (.slice ad (m.sent.length + 1) c) w2 ∧ w2.cell? ⟨p, 34, none⟩ = some sn ∧ w2.frozen? ⟨p, 34, none⟩ = false ∧ MSt B (w2.setCell ⟨p, 34, none⟩ (.slice ad (m.sent.length + 1) c)) p { m with sent := m.sent ++ [x] } k := by
  obtain ⟨ad, c', w2, hrun, c2, f2, H2⟩ := h.rs.addSn rt34 tyM_ok (by omega) x 34 (by rw [h.len]) 65 (0, 0) 34
  exact ⟨ad, c', w2, hrun, c2, f2, stk, _, _, _, h.s16, h.top, H2⟩
/-- A reminder more. -/
theorem MS.addTm (h : MS B w p m k stk ev sn tm) (hl : m.tm.length ≤ 900) (x : Tm) : ∃ ad c w2, (Builtin.append_ #[35, 35] 35 #[tm, .slice (some ⟨w.heap.size, 0, none⟩) 1 1]).run Tryd.prog (w.alloc (.cells #[.string ⟨x.nm.toArray⟩, .bool x.can, .int .i64 x.due, .int .i64 x.per, .int .i64 x.kind] 58)) = .ok (.slice ad (m.tm.length + 1) c) w2 ∧ w2.cell? ⟨p, 35, none⟩ = some tm ∧ w2.frozen? ⟨p, 35, none⟩ = false ∧ MSt B (w2.setCell ⟨p, 35, none⟩ (.slice ad (m.tm.length + 1) c)) p { m with tm := m.tm ++ [x] } k := by
  obtain ⟨ad, c', w2, hrun, c2, f2, H2⟩ := h.rs.addTm rt35 tyM_ok (by omega) x 35 (by rw [h.len]) 58 (0, 0) 35
  exact ⟨ad, c', w2, hrun, c2, f2, stk, _, _, _, h.s16, h.top, H2⟩
set_option maxHeartbeats 4000000 in
theorem send45 (h : MSt B w p m k) (to : List UInt8) (kd x : Int) (hs : to.length ≤ 281474976710656) (h4 : m.sent.length ≤ 4) : Calls Tryd.prog 45 #[.pointer (some ⟨p, 0, none⟩), .string ⟨to.toArray⟩, .int .i64 kd, .int .i64 x] w fun e w' => (m.sent.length = 4 ∧ e = .returned (.int .i64 12) ∧ MSt B w' p m k) ∨ (m.sent.length < 4 ∧ e = .returned (.int .i64 0) ∧ MSt B w' p { m with sent := m.sent ++ [⟨to, kd, x⟩] } k) := by
  obtain ⟨stk, ev, sn, tm, h⟩ := h
  obtain ⟨a, c, rfl, -, -⟩ := h.rs.sn.form
  rw [rowS_length] at *
  have c0 := h.c_sn
  by_cases hq : m.sent.length = 4
  · have HM : Hid (MSt B w p m k) := ⟨_, _, _, _, h⟩
    have HQ := Hid.mk hq
    rw [hq] at c0
    clear h hq h4
    go_enter Tryd.func45, Tryd.ntmps45
    go_wp2_with fail
    go_ret
    exact .inl ⟨HQ.out, rfl, HM.out⟩
  · have HM := Hid.mk h
    have HQ : Hid (m.sent.length < 4) := by have := hq; show m.sent.length < 4; omega
    have hq' : ((m.sent.length : Int) == 4) = false := by simp only [beq_eq_false_iff_ne, ne_eq]; omega
    have hq2 : ¬ (m.sent.length : Int) = 4 := by omega
    have S0 : w.drew.cell? ⟨p, 34, none⟩ = some (.slice a m.sent.length c) := c0
    have HC : Hid (Calls Tryd.prog 49 #[.string ⟨to.toArray⟩] w.drew fun e w' => e = .returned (.string ⟨to.toArray⟩) ∧ Kept [] w.drew w') := clone49 to hs
    clear h hq h4
    go_enter Tryd.func45, Tryd.ntmps45
    go_wp2_with fail
    go_region_law (first | (refine step_append_run 34 (.tmp 21) (.tmp 27) (by rfl) (by rfl) _ _ (by rfl) (by rfl) hrun ?_) | (go_simp; go_at_call 49; refine Calls.mono HC.out ?_; rintro e w5 ⟨rfl, k5⟩; have h5 := HM.out.keep ((Kept.refl [] w).drew.then k5); obtain ⟨a6, c6, w6, hrun, q3, qf, s6⟩ := h5.addSn (by have := HQ.out; omega) ⟨to, kd, x⟩; have S6 := Hid.mk s6; clear s6; have q5 := h5.c_sn; have q6 := ((Kept.refl [] w5).alloc (.cells #[.string ⟨to.toArray⟩, .int .i64 kd, .int .i64 x] 65)).cell_eq q5; clear h5))
    all_goals
      clear q3 qf q5 q6 hrun
      go_wp2_with fail
      go_ret
      exact .inr ⟨HQ.out, rfl, S6.out⟩
end
end Go.Proofs.YtpodoiichpnpjaaDoor
