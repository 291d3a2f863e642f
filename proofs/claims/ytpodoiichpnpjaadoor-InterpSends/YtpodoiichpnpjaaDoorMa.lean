/-
  The program's machine: act, operation by operation: where nothing goes out.
-/
import Derived.Test.YtpodoiichpnpjaaDoorMj
import Derived.Deep.RegionHeld3
namespace Go.Proofs.YtpodoiichpnpjaaDoor
open Go.RowKit
set_option maxRecDepth 100000
set_option linter.unusedVariables false
section
variable {B : Bs} {w w' : World} {p : Nat} {m : Mc} {k : Nat} {stk : List Int} {ev sn tm : Value}
theorem MS.c_at (h : MS B w p m k stk ev sn tm) : w.cell? ⟨p, 7, none⟩ = some (Iv (m.at_ : Int)) := h.rs.cell_pre rfl
/-- The place is set. -/
theorem MS.put_at (h : MS B w p m k stk ev sn tm) (n : Nat) : MSt B (w.setCell ⟨p, 7, none⟩ (Iv (n : Int))) p { m with at_ := n } k :=
  ⟨stk, ev, sn, tm, h.s16, h.top, h.rs.put_pre tyM_ok (Iv (n : Int)) (by rw [h.len]; omega) rfl⟩
theorem MS.c_code (hB : B.Ok) (h : MS B w p m k stk ev sn tm) : ∃ b d, w.cell? ⟨p, 1, none⟩ = some (.slice b B.pg.code.length d) ∧ B.cv = .slice b B.pg.code.length d := by
  obtain ⟨a, c, b, d, h1, h2, -⟩ := hB.prog.form
  exact ⟨b, d, by rw [← h2]; exact h.fix rfl, h2⟩
set_option maxHeartbeats 2000000 in
theorem act32_0 (hB : B.Ok) (h : MSt B w p m k) (arg x y : Int) : Calls Tryd.prog 32 #[.pointer (some ⟨p, 0, none⟩), .agg #[.int .i64 0, .int .i64 arg], .int .i64 x, .int .i64 y] w fun e w' => e = .returned (.int .i64 0) ∧ MSt B w' p { m with at_ := B.pg.code.length } k := by
  obtain ⟨W0, e0, k0, -, hb⟩ := box1 w (.cells #[.int .i64 0, .int .i64 arg] 60)
  obtain ⟨y0, y1⟩ := cells2 hb
  obtain ⟨stk, ev, sn, tm, h⟩ := h.keep k0
  obtain ⟨b, d, c0, -⟩ := h.c_code hB
  have c1 := h.c_at
  have f1 := h.rs.free 7
  have HM := Hid.mk (h.put_at B.pg.code.length)
  clear h
  go_enter Tryd.func32, Tryd.ntmps32
  go_wp2_with fail
  go_ret
  exact ⟨rfl, HM.out⟩
set_option maxHeartbeats 2000000 in
theorem act32_13 (h : MSt B w p m k) (arg x y : Int) : Calls Tryd.prog 32 #[.pointer (some ⟨p, 0, none⟩), .agg #[.int .i64 13, .int .i64 arg], .int .i64 x, .int .i64 y] w fun e w' => e = .returned (.int .i64 0) ∧ MSt B w' p m k := by
  obtain ⟨W0, e0, k0, -, hb⟩ := box1 w (.cells #[.int .i64 13, .int .i64 arg] 60)
  obtain ⟨y0, y1⟩ := cells2 hb
  have HM := Hid.mk (h.keep k0)
  clear h
  go_enter Tryd.func32, Tryd.ntmps32
  go_wp2_with fail
  go_ret
  exact ⟨rfl, HM.out⟩
set_option maxHeartbeats 2000000 in
theorem act32_21 (h : MSt B w p m k) (arg x y : Int) : Calls Tryd.prog 32 #[.pointer (some ⟨p, 0, none⟩), .agg #[.int .i64 21, .int .i64 arg], .int .i64 x, .int .i64 y] w fun e w' => e = .returned (.int .i64 12) ∧ MSt B w' p m k := by
  obtain ⟨W0, e0, k0, -, hb⟩ := box1 w (.cells #[.int .i64 21, .int .i64 arg] 60)
  obtain ⟨y0, y1⟩ := cells2 hb
  have HM := Hid.mk (h.keep k0)
  clear h
  go_enter Tryd.func32, Tryd.ntmps32
  go_wp2_with fail
  go_ret
  exact ⟨rfl, HM.out⟩
set_option maxHeartbeats 2000000 in
theorem act32_3 (h : MSt B w p m k) (n : Nat) (hn : n ≤ 7) (x y : Int) (hl : m.ev.length ≤ 900) : Calls Tryd.prog 32 #[.pointer (some ⟨p, 0, none⟩), .agg #[.int .i64 3, .int .i64 (n : Int)], .int .i64 x, .int .i64 y] w fun e w' => e = .returned (.int .i64 0) ∧ MSt B w' p { m with reg := m.reg.set n x, ev := m.ev ++ [⟨n, x⟩] } k := by
  obtain ⟨W0, e0, k0, -, hb⟩ := box1 w (.cells #[.int .i64 3, .int .i64 (n : Int)] 60)
  obtain ⟨y0, y1⟩ := cells2 hb
  have HC := Hid.mk (store44 (h.keep k0) n hn x hl)
  clear h
  go_enter Tryd.func32, Tryd.ntmps32
  go_wp2_with (go_at_call 44; refine HC.out.mono ?_; rintro e w1 ⟨rfl, h1⟩)
  go_ret
  exact ⟨rfl, h1⟩
set_option maxHeartbeats 2000000 in
theorem act32_15 (h : MSt B w p m k) (n : Nat) (x y : Int) : Calls Tryd.prog 32 #[.pointer (some ⟨p, 0, none⟩), .agg #[.int .i64 15, .int .i64 (n : Int)], .int .i64 x, .int .i64 y] w fun e w' => e = .returned (.int .i64 0) ∧ MSt B w' p { m with at_ := n } k := by
  obtain ⟨W0, e0, k0, -, hb⟩ := box1 w (.cells #[.int .i64 15, .int .i64 (n : Int)] 60)
  obtain ⟨y0, y1⟩ := cells2 hb
  obtain ⟨stk, ev, sn, tm, h⟩ := h.keep k0
  have c1 := h.c_at
  have f1 := h.rs.free 7
  have HM := Hid.mk (h.put_at n)
  clear h
  go_enter Tryd.func32, Tryd.ntmps32
  go_wp2_with fail
  go_ret
  exact ⟨rfl, HM.out⟩
set_option maxHeartbeats 2000000 in
theorem act32_16 (h : MSt B w p m k) (n : Nat) (x y : Int) : Calls Tryd.prog 32 #[.pointer (some ⟨p, 0, none⟩), .agg #[.int .i64 16, .int .i64 (n : Int)], .int .i64 x, .int .i64 y] w fun e w' => e = .returned (.int .i64 0) ∧ MSt B w' p { m with at_ := if x = 0 then n else m.at_ } k := by
  obtain ⟨W0, e0, k0, -, hb⟩ := box1 w (.cells #[.int .i64 16, .int .i64 (n : Int)] 60)
  obtain ⟨y0, y1⟩ := cells2 hb
  obtain ⟨stk, ev, sn, tm, h⟩ := h.keep k0
  have c1 := h.c_at
  have f1 := h.rs.free 7
  by_cases hx : x = 0
  · subst hx
    rw [if_pos rfl]
    have HM := Hid.mk (h.put_at n)
    clear h
    go_enter Tryd.func32, Tryd.ntmps32
    go_wp2_with fail
    go_ret
    exact ⟨rfl, HM.out⟩
  · rw [if_neg hx]
    have HM : Hid (MSt B W0 p m k) := ⟨_, _, _, _, h⟩
    have hx' : (x == 0) = false := by simpa using hx
    clear h
    go_enter Tryd.func32, Tryd.ntmps32
    go_wp2_with fail
    go_ret
    exact ⟨rfl, HM.out⟩
end
end Go.Proofs.YtpodoiichpnpjaaDoor
