/-
  The program's machine: a letter's argument, truth, store, send, remind, cancel.
-/
import Derived.Shelf.Pu.Clone
import Derived.Ground.MpProg
import Derived.Lib.Bytealg
import Derived.Test.YtpodoiichpnpjaaDoorMi
namespace Go.Proofs.YtpodoiichpnpjaaDoor
open Go.RowKit Go.Shelf
set_option maxRecDepth 100000
set_option linter.unusedVariables false
def cloneS_ren : Go.Shelf.Ren := ⟨fun | 25 => 50 | n => n, fun | 9 => 9 | 3 => 3 | 4 => 4 | 37 => 111 | 0 => 0 | 47 => 112 | 5 => 5 | n => n, fun | n => n⟩
theorem cloneS : Go.Proofs.LaysPu.n25 Tryd.prog cloneS_ren := {
  mixed := by kernel_rfl
  f25 := Tryd.func50.trans (congrArg some (by kernel_rfl))
  t0 := Tryd.underlying0
  a0 := Tryd.isAgg0
  z0 := Tryd.sizeOf0
  v0 := Tryd.zeroValue0
  i0 := by kernel_rfl
  t3 := Tryd.underlying3
  a3 := Tryd.isAgg3
  z3 := Tryd.sizeOf3
  v3 := Tryd.zeroValue3
  i3 := by kernel_rfl
  t4 := Tryd.underlying4
  a4 := Tryd.isAgg4
  z4 := Tryd.sizeOf4
  v4 := Tryd.zeroValue4
  i4 := by kernel_rfl
  t5 := Tryd.underlying5
  a5 := Tryd.isAgg5
  z5 := Tryd.sizeOf5
  v5 := Tryd.zeroValue5
  i5 := by kernel_rfl
  t9 := Tryd.underlying9
  a9 := Tryd.isAgg9
  z9 := Tryd.sizeOf9
  v9 := Tryd.zeroValue9
  i9 := by kernel_rfl
  t37 := Tryd.underlying111
  a37 := Tryd.isAgg111
  z37 := Tryd.sizeOf111
  v37 := Tryd.zeroValue111
  i37 := by kernel_rfl
  t47 := Tryd.underlying112
  a47 := Tryd.isAgg112
  z47 := Tryd.sizeOf112
  v47 := Tryd.zeroValue112
  i47 := by kernel_rfl }
section
variable {w : World}
set_option maxHeartbeats 1000000 in
theorem clone49 (s : List UInt8) (hs : s.length ≤ 281474976710656) : Calls Tryd.prog 49 #[.string ⟨s.toArray⟩] w fun e w' => e = .returned (.string ⟨s.toArray⟩) ∧ Kept [] w w' := by
  have h : Calls Tryd.prog 50 #[.string ⟨s.toArray⟩] w fun e w' => e = .returned (.string ⟨s.toArray⟩) ∧ Below w.heap.size w w' := AnyPu.stringslite_Clone cloneS ⟨s.toArray⟩ w (by simpa [ByteArray.size] using hs)
  go_enter Tryd.func49, Tryd.ntmps49
  go_wp2_with (go_at_call 50; refine h.mono ?_; rintro e w1 ⟨rfl, hb⟩)
  go_ret
  exact ⟨rfl, ⟨hb.os, hb.tape, hb.output, hb.size, fun k hk _ => hb.block k hk⟩⟩
theorem truth43 (b : Bool) : Calls Tryd.prog 43 #[.bool b] w fun e w' => e = .returned (.int .i64 (if b = true then 1 else 0)) ∧ w = w' := by
  cases b
  · go_enter Tryd.func43, Tryd.ntmps43
    go_wp2_with fail
    go_ret
    exact ⟨rfl, rfl⟩
  · go_enter Tryd.func43, Tryd.ntmps43
    go_wp2_with fail
    go_ret
    exact ⟨rfl, rfl⟩
end
/-- The cell of an integer in a row of them. -/
theorem rowJ_at {w : World} {a : Option Addr} {n c : Nat} {C : List Int} (h : ReadsR 1 w (.slice a n c) (rowJ C)) {j : Nat} {x : Int} (hj : C[j]? = some x) : ∃ b o, a = some ⟨b, o, none⟩ ∧ w.cell? ⟨b, o + j, none⟩ = some (.int .i64 x) := by
  obtain ⟨b, o, c', e, hc⟩ := h.at j [.int .i64 x] (by simp [rowJ, hj])
  simp only [Value.slice.injEq] at e
  refine ⟨b, o, e.1, ?_⟩
  have := hc 0 _ rfl
  simpa using this
section
variable {B : Bs} {w w' : World} {p : Nat} {m : Mc} {k : Nat} {stk : List Int} {ev sn tm : Value}
theorem MS.fix (h : MS B w p m k stk ev sn tm) {i : Nat} {x : Value} (hi : B.fix[i]? = some x) : w.cell? ⟨p, i, none⟩ = some x :=
  h.rs.cell_pre (by unfold preM; rw [List.getElem?_append_left (List.getElem?_eq_some_iff.1 hi).1]; exact hi)
set_option maxHeartbeats 1000000 in
theorem argument42 (hB : B.Ok) (h : MSt B w p m k) (n : Nat) (hn : n ≤ 7) : Calls Tryd.prog 42 #[.pointer (some ⟨p, 0, none⟩), .int .i64 (n : Int)] w fun e w' => e = .returned (.int .i64 (B.l.args.getD n 0)) ∧ w = w' := by
  obtain ⟨stk, ev, sn, tm, h⟩ := h
  have hA := hB.args.keep h.rs.kept
  obtain ⟨a, c, hav, h1, h2⟩ := hA.form
  rw [rowJ_length] at hav h1
  have c5 : w.cell? ⟨p, 5, none⟩ = some (.slice a B.l.args.length c) := by rw [← hav]; exact h.fix rfl
  rw [hav] at hA
  clear hav h
  by_cases hlt : n < B.l.args.length
  · have hg : B.l.args[n]? = some (B.l.args.getD n 0) := by simp [List.getElem?_eq_getElem hlt]
    obtain ⟨b, o, rfl, hc⟩ := rowJ_at hA hg
    have q : ¬ (B.l.args.length : Int) ≤ (n : Int) := by omega
    have q0 : (0 : Int) ≤ (n : Int) := by omega
    have q1 : (n : Int) < (B.l.args.length : Int) := by omega
    clear hA hg
    generalize B.l.args.getD n 0 = x at *
    generalize B.l.args.length = nn at *
    go_enter Tryd.func42, Tryd.ntmps42
    go_wp2_with fail
    go_ret
    exact ⟨rfl, rfl⟩
  · have q : (B.l.args.length : Int) ≤ (n : Int) := by omega
    have e0 : B.l.args.getD n 0 = 0 := by simp [List.getElem?_eq_none (Nat.le_of_not_lt hlt)]
    rw [e0]
    clear hA e0
    generalize B.l.args.length = nn at *
    go_enter Tryd.func42, Tryd.ntmps42
    go_wp2_with fail
    go_ret
    exact ⟨rfl, rfl⟩
theorem rt33 : RowT 33 56 2 16 (.agg #[.int .i64 0, .int .i64 0]) := ⟨Tryd.underlying33, by kernel_rfl, rfl, by omega, by omega⟩
theorem rt34 : RowT 34 65 3 32 (.agg #[.string ⟨#[]⟩, .int .i64 0, .int .i64 0]) := ⟨Tryd.underlying34, by kernel_rfl, rfl, by omega, by omega⟩
theorem rt35 : RowT 35 58 5 48 (.agg #[.string ⟨#[]⟩, .bool false, .int .i64 0, .int .i64 0, .int .i64 0]) := ⟨Tryd.underlying35, by kernel_rfl, rfl, by omega, by omega⟩
set_option maxHeartbeats 2000000 in
theorem store44 (h : MSt B w p m k) (r : Nat) (hr : r ≤ 7) (x : Int) (hl : m.ev.length ≤ 900) : Calls Tryd.prog 44 #[.pointer (some ⟨p, 0, none⟩), .int .i64 (r : Int), .int .i64 x] w fun e w' => e = .returned (.tuple #[]) ∧ MSt B w' p { m with reg := m.reg.set r x, ev := m.ev ++ [⟨r, x⟩] } k := by
  obtain ⟨stk, ev, sn, tm, h⟩ := h
  have h1 := h.rs.put_reg tyM_ok (o := 25 + r) x (by rw [h.len]) (by omega)
  obtain ⟨y, hy⟩ : ∃ y, m.reg[r]? = some y := ⟨_, List.getElem?_eq_getElem (by rw [h.rs.r8]; omega)⟩
  have c0 : w.cell? ⟨p, 25 + r, none⟩ = some (Iv y) := h.rs.cell_res (by rw [h.len]) (cellsR_reg hy)
  have f0 := h.rs.free (25 + r)
  obtain ⟨a, c, rfl, -, -⟩ := h.rs.ev.form
  rw [rowE_length] at *
  obtain ⟨ad, c', w2, hrun, c2, f2, H2⟩ := h1.addEv rt33 tyM_ok (by omega) ⟨r, x⟩ 33 (by rw [h.len]) 56 (0, 0) 33
  have c1 := h1.cell_res (o := 33) (by rw [h.len]) (cellsR_ev h1.r8)
  rw [show (w.setCell ⟨p, 25 + r, none⟩ (Iv x)).heap.size = w.heap.size by simp] at hrun
  have HM : Hid (MSt B (w2.setCell ⟨p, 33, none⟩ (.slice ad (m.ev.length + 1) c')) p { m with reg := m.reg.set r x, ev := m.ev ++ [⟨r, x⟩] } k) := ⟨stk, _, sn, tm, h.s16, h.top, H2⟩
  have q0 : (0 : Int) ≤ (r : Int) := by omega
  have q1 : (r : Int) < 8 := by omega
  clear h h1 H2 hy
  generalize m.ev.length = n at *
  go_enter Tryd.func44, Tryd.ntmps44
  go_wp2_with (at_builtin; refine wpList_append_run 33 33 (.tmp 18) (.tmp 22) rfl (by rfl) _ _ rfl rfl _ _ hrun ?_)
  go_end0
  exact ⟨rfl, HM.out⟩
end
end Go.Proofs.YtpodoiichpnpjaaDoor
