import Derived.Test.YtpodoiichpnpjaaDoorQ13
/-
  The program's machine: remind, cancel.
-/
namespace Go.Proofs.YtpodoiichpnpjaaDoor
open Go.RowKit
set_option maxRecDepth 100000
set_option linter.unusedVariables false
/-- A reminder that may not be. -/
def BadT (now x y : Int) : Prop := x < 0 ∨ 9223372036854775807 < now + x ∨ y < 1
section
variable {B : Bs} {w w' : World} {p : Nat} {m : Mc} {k : Nat} {stk : List Int} {ev sn tm : Value}
set_option maxHeartbeats 4000000 in
theorem remind46_bad (h : MSt B w p m k) (nm : List UInt8) (x y : Int) (hn : 0 ≤ B.now ∧ B.now ≤ 9223372036854775807) (hb : BadT B.now x y) : Calls Tryd.prog 46 #[.pointer (some ⟨p, 0, none⟩), .string ⟨nm.toArray⟩, .int .i64 x, .int .i64 y] w fun e w' => e = .returned (.int .i64 12) ∧ MSt B w' p m k := by
  obtain ⟨stk, ev, sn, tm, h⟩ := h
  have c0 : w.cell? ⟨p, 6, none⟩ = some (.int .i64 B.now) := h.fix rfl
  have HM : Hid (MSt B w p m k) := ⟨_, _, _, _, h⟩
  have e0 : IntKind.i64.wrap (9223372036854775807 - B.now) = 9223372036854775807 - B.now := w64_small _ (by omega)
  have e1 : (9223372036854775807 - B.now < x) ↔ 9223372036854775807 < B.now + x := by omega
  have HB : Hid (x < 0 ∨ 9223372036854775807 - B.now < x ∨ y < 1) := by
    rcases hb with h | h | h
    · exact .inl h
    · exact .inr (.inl (e1.2 h))
    · exact .inr (.inr h)
  clear h hb e1 hn
  generalize B.now = now at *
  by_cases h1 : x < 0
  · go_enter Tryd.func46, Tryd.ntmps46
    go_wp2_with fail
    go_ret
    exact ⟨rfl, HM.out⟩
  · by_cases h2 : 9223372036854775807 - now < x
    · go_enter Tryd.func46, Tryd.ntmps46
      go_wp2_with fail
      go_ret
      exact ⟨rfl, HM.out⟩
    · have h3 : y < 1 := by
        rcases HB.out with h | h | h
        · exact absurd h h1
        · exact absurd h h2
        · exact h
      clear HB
      go_enter Tryd.func46, Tryd.ntmps46
      go_wp2_with fail
      go_ret
      exact ⟨rfl, HM.out⟩
set_option maxHeartbeats 4000000 in
theorem remind46 (h : MSt B w p m k) (nm : List UInt8) (x y : Int) (hs : nm.length ≤ 281474976710656) (hl : m.tm.length ≤ 900) (hn : 0 ≤ B.now ∧ B.now ≤ 9223372036854775807) (hb : ¬ BadT B.now x y) : Calls Tryd.prog 46 #[.pointer (some ⟨p, 0, none⟩), .string ⟨nm.toArray⟩, .int .i64 x, .int .i64 y] w fun e w' => e = .returned (.int .i64 0) ∧ MSt B w' p { m with tm := m.tm ++ [⟨nm, false, B.now + x, y, B.l.kind⟩] } k := by
  obtain ⟨stk, ev, sn, tm, h⟩ := h
  obtain ⟨a, c, rfl, -, -⟩ := h.rs.tm.form
  rw [rowT_length] at *
  have hx0 : ¬ x < 0 := fun h => hb (.inl h)
  have hx1 : ¬ 9223372036854775807 < B.now + x := fun h => hb (.inr (.inl h))
  have hy1 : ¬ y < 1 := fun h => hb (.inr (.inr h))
  have c0 : w.cell? ⟨p, 6, none⟩ = some (.int .i64 B.now) := h.fix rfl
  have e0 : IntKind.i64.wrap (9223372036854775807 - B.now) = 9223372036854775807 - B.now := w64_small _ (by omega)
  have e1 : IntKind.i64.wrap (B.now + x) = B.now + x := w64_small _ (by omega)
  have hx2 : ¬ 9223372036854775807 - B.now < x := by omega
  have HM := Hid.mk h
  have HL := Hid.mk hl
  have S0 : w.drew.cell? ⟨p, 35, none⟩ = some (.slice a m.tm.length c) := h.c_tm
  have S1 : w.drew.cell? ⟨p, 6, none⟩ = some (.int .i64 B.now) := c0
  have S2 : w.drew.cell? ⟨p, 4, none⟩ = some (.int .i64 B.l.kind) := h.fix rfl
  have HC : Hid (Calls Tryd.prog 49 #[.string ⟨nm.toArray⟩] w.drew fun e w' => e = .returned (.string ⟨nm.toArray⟩) ∧ Kept [] w.drew w') := clone49 nm hs
  clear h hb hl hx1 hn
  go_enter Tryd.func46, Tryd.ntmps46
  go_wp2_with fail
  go_region_law (first | (refine step_append_run 35 (.tmp 29) (.tmp 45) (by rfl) (by rfl) _ _ (by rfl) (by rfl) hrun ?_) | (go_simp; go_at_call 49; refine Calls.mono HC.out ?_; rintro e w5 ⟨rfl, k5⟩; have h5 := HM.out.keep ((Kept.refl [] w).drew.then k5); obtain ⟨a6, c6, w6, hrun, q3, qf, s6⟩ := h5.addTm HL.out ⟨nm, false, B.now + x, y, B.l.kind⟩; have S6 := Hid.mk s6; clear s6; have q5 := h5.c_tm; have q7 : w5.cell? ⟨p, 6, none⟩ = some (.int .i64 B.now) := h5.fix rfl; have q8 : w5.cell? ⟨p, 4, none⟩ = some (.int .i64 B.l.kind) := h5.fix rfl; have q6 := ((Kept.refl [] w5).alloc (.cells #[.string ⟨nm.toArray⟩, .bool false, .int .i64 (B.now + x), .int .i64 y, .int .i64 B.l.kind] 58)).cell_eq q5; clear h5))
  all_goals
    clear q3 qf q5 q6 hrun
    go_wp2_with fail
    go_ret
    exact ⟨rfl, S6.out⟩
set_option maxHeartbeats 4000000 in
theorem cancel47 (h : MSt B w p m k) (nm : List UInt8) (hs : nm.length ≤ 281474976710656) (hl : m.tm.length ≤ 900) : Calls Tryd.prog 47 #[.pointer (some ⟨p, 0, none⟩), .string ⟨nm.toArray⟩] w fun e w' => e = .returned (.tuple #[]) ∧ MSt B w' p { m with tm := m.tm ++ [⟨nm, true, 0, 0, 0⟩] } k := by
  obtain ⟨stk, ev, sn, tm, h⟩ := h
  obtain ⟨a, c, rfl, -, -⟩ := h.rs.tm.form
  rw [rowT_length] at *
  have HM := Hid.mk h
  have HL := Hid.mk hl
  have S0 : w.drew.cell? ⟨p, 35, none⟩ = some (.slice a m.tm.length c) := h.c_tm
  have HC : Hid (Calls Tryd.prog 49 #[.string ⟨nm.toArray⟩] w.drew fun e w' => e = .returned (.string ⟨nm.toArray⟩) ∧ Kept [] w.drew w') := clone49 nm hs
  clear h hl
  go_enter Tryd.func47, Tryd.ntmps47
  go_wp2_with fail
  go_region_law (first | (refine step_append_run 35 (.tmp 9) (.tmp 13) (by rfl) (by rfl) _ _ (by rfl) (by rfl) hrun ?_) | (go_simp; go_at_call 49; refine Calls.mono HC.out ?_; rintro e w5 ⟨rfl, k5⟩; have h5 := HM.out.keep ((Kept.refl [] w).drew.then k5); obtain ⟨a6, c6, w6, hrun, q3, qf, s6⟩ := h5.addTm HL.out ⟨nm, true, 0, 0, 0⟩; have S6 := Hid.mk s6; clear s6; have q5 := h5.c_tm; have q6 := ((Kept.refl [] w5).alloc (.cells #[.string ⟨nm.toArray⟩, .bool true, .int .i64 0, .int .i64 0, .int .i64 0] 58)).cell_eq q5; clear h5))
  all_goals
    clear q3 qf q5 q6 hrun
    go_wp2_with fail
    go_end0
    exact ⟨rfl, S6.out⟩
end
end Go.Proofs.YtpodoiichpnpjaaDoor
