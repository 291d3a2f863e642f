import Derived.Test.YtpodoiichpnpjaaDoorQ13
import Derived.Test.YtpodoiichpnpjaaDoorQ14
/-
  The document's machine: out: reminders.
-/
namespace Go.Proofs.YtpodoiichpnpjaaDoor
open Go.RowKit
set_option maxRecDepth 100000
set_option linter.unusedVariables false
section
variable {B : Bs} {w w' : World} {p : Nat} {m : Mc} {k : Nat} {sv ev sn tm : Value}
set_option maxHeartbeats 4000000 in
theorem out38_20 (hB : B.Ok) (h : FSt B w p m k) (n : Nat) (s : List UInt8) (hn : B.pg.names[n]? = some s) (x y : Int) (hl : m.tm.length ≤ 900) : Calls Tryd.prog 38 #[.pointer (some ⟨p, 0, none⟩), .agg #[.int .i64 20, .int .i64 (n : Int)], .int .i64 x, .int .i64 y] w fun e w' => e = .returned (.tuple #[.bool true, .int .i64 0]) ∧ FSt B w' p { m with tm := m.tm ++ [⟨s, true, 0, 0, 0⟩] } k := by
  obtain ⟨W0, e0, k0, -, hb⟩ := box1 w (.cells #[.int .i64 20, .int .i64 (n : Int)] 75)
  obtain ⟨y0, y1⟩ := cells2 hb
  obtain ⟨sv, ev, sn, tm, h0⟩ := h.keep k0
  obtain ⟨b, o, c, c0, c1⟩ := h0.c_name hB hn
  have c0 : W0.drew.cell? ⟨p, 0, none⟩ = some (.slice (some ⟨b, o, none⟩) B.pg.names.length c) := c0
  have c1 : W0.drew.cell? ⟨b, o + n, none⟩ = some (.string ⟨s.toArray⟩) := c1
  have S1 : W0.drew.cell? ⟨w.heap.size, 1, none⟩ = some (.int .i64 (n : Int)) := y1
  have q0 : (0 : Int) ≤ (n : Int) := by omega
  have q1 : (n : Int) < (B.pg.names.length : Int) := by have := (List.getElem?_eq_some_iff.1 hn).1; omega
  have h1 := h0.keep (Kept.refl [] W0).drew
  obtain ⟨sa, sc, rfl, -, -⟩ := h1.rs.tm.form
  rw [rowT_length] at *
  have c3 : W0.drew.cell? ⟨p, 19, none⟩ = some (.slice sa m.tm.length sc) := h1.c_tm
  obtain ⟨ad, c', w2, hrun, r0, r1, H2⟩ := h1.addTm hl ⟨s, true, 0, 0, 0⟩
  have HM := Hid.mk H2
  dsimp only at hrun
  have hrun' : (Builtin.append_ #[47, 47] 47 #[.slice sa m.tm.length sc, .slice (some ⟨W0.heap.size, 0, none⟩) 1 1]).run Tryd.prog (W0.alloc (.cells #[.string ⟨s.toArray⟩, .bool true, .int .i64 0, .int .i64 0, .int .i64 0] 100)).drew = .ok (.slice ad (m.tm.length + 1) c') w2 := hrun
  have c4 : (W0.alloc (.cells #[.string ⟨s.toArray⟩, .bool true, .int .i64 0, .int .i64 0, .int .i64 0] 100)).drew.cell? ⟨p, 19, none⟩ = some (.slice sa m.tm.length sc) := (((Kept.refl [] W0).alloc (.cells #[.string ⟨s.toArray⟩, .bool true, .int .i64 0, .int .i64 0, .int .i64 0] 100)).drew).cell_eq h0.c_tm
  clear h h0 h1 hB hn H2 hl hrun
  go_enter Tryd.func38, Tryd.ntmps38
  go_wp2_with fail
  go_region_law ((refine step_append_run 47 (.tmp 114) (.tmp 125) (by rfl) (by rfl) _ _ (by rfl) (by rfl) hrun' ?_))
  all_goals
    go_wp2_with fail
    go_ret2
    exact ⟨rfl, HM.out⟩
end
end Go.Proofs.YtpodoiichpnpjaaDoor
