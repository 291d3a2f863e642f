import Derived.Shelf.Pu.Clone
import Derived.Ground.MpProg
import Derived.Lib.Bytealg
import Derived.Deep.RegionHeld3
import Derived.Test.YtngnenbidpojeaaGreatDoorT03
import Derived.Test.YtngnenbidpojeaaGreatDoorT20
/-
 The program's machine: a letter's argument, truth, store, send, remind, cancel.
-/
namespace Go.Proofs.YtngnenbidpojeaaGreatDoor
open Go.RowKit Go.Shelf
set_option maxRecDepth 100000
set_option linter.unusedVariables false
section
variable {w : World}
set_option maxHeartbeats 1000000 in
theorem clone49 (s : List UInt8) (hs : s.length ≤ 281474976710656) : Calls Tryz.prog 83 #[.string ⟨s.toArray⟩] w fun e w' => e = .returned (.string ⟨s.toArray⟩) ∧ Kept [] w w' := by
 have h : Calls Tryz.prog 120 #[.string ⟨s.toArray⟩] w fun e w' => e = .returned (.string ⟨s.toArray⟩) ∧ Below w.heap.size w w' := AnyPu.stringslite_Clone cloneS ⟨s.toArray⟩ w (by simpa [ByteArray.size] using hs)
 go_enter Tryz.func83, Tryz.ntmps83
 go_wp2_with (go_at_call 120; refine h.mono ?_; rintro e w1 ⟨rfl, hb⟩)
 go_ret
 exact ⟨rfl, ⟨hb.os, hb.tape, hb.output, hb.size, fun k hk _ => hb.block k hk⟩⟩
theorem truth43 (b : Bool) : Calls Tryz.prog 147 #[.bool b] w fun e w' => e = .returned (.int .i64 (if b = true then 1 else 0)) ∧ w = w' := by
 cases b
 ·go_enter Tryz.func147, Tryz.ntmps147
  go_wp2_with fail
  go_ret
  exact ⟨rfl, rfl⟩
 ·go_enter Tryz.func147, Tryz.ntmps147
  go_wp2_with fail
  go_ret
  exact ⟨rfl, rfl⟩
end
theorem rowJ_at {w : World} {a : Option Addr} {n c : Nat} {C : List Int} (h : ReadsR 1 w (.slice a n c) (rowJ C)) {j : Nat} {x : Int} (hj : C[j]? = some x) : ∃ b o, a = some ⟨b, o, none⟩ ∧ w.cell? ⟨b, o + j, none⟩ = some (.int .i64 x) := by
 obtain ⟨b, o, c', e, hc⟩ := h.at j [.int .i64 x] (by simp [rowJ, hj])
 simp only [Value.slice.injEq] at e
 refine ⟨b, o, e.1, ?_⟩
 have := hc 0 _ rfl
 simpa using this
section
variable {B : Bs} {w w' : World} {p : Nat} {m : Mc} {k : Nat} {stk : List Int} {ev sn tm : Value}
theorem MS.fix (h : MS B w p m k stk ev sn tm) {i : Nat} {x : Value} (hi : B.fix[i]? = some x) : w.cell? ⟨p, i, none⟩ = some x :=
 h.rs.cell_pre (by unfold preM; rw [List.getElem?_append_left (List.getElem?_eq_some_iff.1 hi).1]; exact hi)
set_option maxHeartbeats 1000000 in
theorem argument42 (hB : B.Ok) (h : MSt B w p m k) (n : Nat) (hn : n ≤ 7) : Calls Tryz.prog 146 #[.pointer (some ⟨p, 0, none⟩), .int .i64 (n : Int)] w fun e w' => e = .returned (.int .i64 (B.l.args.getD n 0)) ∧ w = w' := by
 obtain ⟨stk, ev, sn, tm, h⟩ := h
 have hA := hB.args.keep h.rs.kept
 obtain ⟨a, c, hav, h1, h2⟩ := hA.form
 rw [rowJ_length] at hav h1
 have c5 : w.cell? ⟨p, 5, none⟩ = some (.slice a B.l.args.length c) := by rw [← hav]; exact h.fix rfl
 rw [hav] at hA
 clear hav h
 by_cases hlt : n < B.l.args.length
 ·have hg : B.l.args[n]? = some (B.l.args.getD n 0) := by simp [List.getElem?_eq_getElem hlt]
  obtain ⟨b, o, rfl, hc⟩ := rowJ_at hA hg
  have q : ¬ (B.l.args.length : Int) ≤ (n : Int) := by omega
  have q0 : (0 : Int) ≤ (n : Int) := by omega
  have q1 : (n : Int) < (B.l.args.length : Int) := by omega
  clear hA hg
  generalize B.l.args.getD n 0 = x at *
  generalize B.l.args.length = nn at *
  go_enter Tryz.func146, Tryz.ntmps146
  go_wp2_with fail
  go_ret
  exact ⟨rfl, rfl⟩
 ·have q : (B.l.args.length : Int) ≤ (n : Int) := by omega
  have e0 : B.l.args.getD n 0 = 0 := by simp [List.getElem?_eq_none (Nat.le_of_not_lt hlt)]
  rw [e0]
  clear hA e0
  generalize B.l.args.length = nn at *
  go_enter Tryz.func146, Tryz.ntmps146
  go_wp2_with fail
  go_ret
  exact ⟨rfl, rfl⟩
theorem rt33 : RowT 90 92 2 16 (.agg #[.int .i64 0, .int .i64 0]) := ⟨Tryz.underlying90, by kernel_rfl, rfl, by omega, by omega⟩
theorem rt34 : RowT 101 235 3 32 (.agg #[.string ⟨#[]⟩, .int .i64 0, .int .i64 0]) := ⟨Tryz.underlying101, by kernel_rfl, rfl, by omega, by omega⟩
theorem rt35 : RowT 37 194 5 48 (.agg #[.string ⟨#[]⟩, .bool false, .int .i64 0, .int .i64 0, .int .i64 0]) := ⟨Tryz.underlying37, by kernel_rfl, rfl, by omega, by omega⟩
set_option maxHeartbeats 2000000 in
theorem store44 (h : MSt B w p m k) (r : Nat) (hr : r ≤ 7) (x : Int) (hl : m.ev.length ≤ 900) : Calls Tryz.prog 148 #[.pointer (some ⟨p, 0, none⟩), .int .i64 (r : Int), .int .i64 x] w fun e w' => e = .returned (.tuple #[]) ∧ MSt B w' p { m with reg := m.reg.set r x, ev := m.ev ++ [⟨r, x⟩] } k := by
 obtain ⟨stk, ev, sn, tm, h⟩ := h
 have h1 := h.rs.put_reg tyM_ok (o := 25 + r) x (by rw [h.len]) (by omega)
 obtain ⟨y, hy⟩ : ∃ y, m.reg[r]? = some y := ⟨_, List.getElem?_eq_getElem (by rw [h.rs.r8]; omega)⟩
 have c0 : w.cell? ⟨p, 25 + r, none⟩ = some (Iv_N y) := h.rs.cell_res (by rw [h.len]) (cellsR_reg hy)
 have f0 := h.rs.free (25 + r)
 obtain ⟨a, c, rfl, -, -⟩ := h.rs.ev.form
 rw [rowE_length] at *
 obtain ⟨ad, c', w2, hrun, c2, f2, H2⟩ := h1.addEv rt33 tyM_ok (by omega) ⟨r, x⟩ 33 (by rw [h.len]) 92 (0, 0) 90
 have c1 := h1.cell_res (o := 33) (by rw [h.len]) (cellsR_ev h1.r8)
 rw [show (w.setCell ⟨p, 25 + r, none⟩ (Iv_N x)).heap.size = w.heap.size by simp] at hrun
 have HM : Hid (MSt B (w2.setCell ⟨p, 33, none⟩ (.slice ad (m.ev.length + 1) c')) p { m with reg := m.reg.set r x, ev := m.ev ++ [⟨r, x⟩] } k) := ⟨stk, _, sn, tm, h.s16, h.top, H2⟩
 have q0 : (0 : Int) ≤ (r : Int) := by omega
 have q1 : (r : Int) < 8 := by omega
 clear h h1 H2 hy
 generalize m.ev.length = n at *
 go_enter Tryz.func148, Tryz.ntmps148
 go_wp2_with (at_builtin; refine wpList_append_run 90 90 (.tmp 18) (.tmp 22) rfl (by rfl) _ _ rfl rfl _ _ hrun ?_)
 go_end0
 exact ⟨rfl, HM.out⟩
end
end Go.Proofs.YtngnenbidpojeaaGreatDoor
namespace Go.Proofs.YtngnenbidpojeaaGreatDoor
open Go.RowKit
set_option maxRecDepth 100000
set_option linter.unusedVariables false
section
variable {w : World}
set_option maxHeartbeats 1000000 in
theorem lformed18 (l : Lt) (a : Option Addr) (c : Nat) (h1 : l.fr.length ≤ 9223372036854775807) (h2 : l.args.length ≤ 9223372036854775807) : Calls Tryz.prog 74 #[.agg #[.string ⟨l.fr.toArray⟩, .int .u64 (l.ser : Int), .int .i64 l.kind, .slice a l.args.length c]] w fun e w' => e = .returned (.bool l.formed) ∧ Kept [] w w' := by
 obtain ⟨W0, e0, k0, -, hb⟩ := box1 w (.cells #[.string ⟨l.fr.toArray⟩, .int .u64 (l.ser : Int), .int .i64 l.kind, .slice a l.args.length c] 81)
 obtain ⟨y0, y1, y2, y3⟩ := cells4 hb
 have HK := Hid.mk k0
 have e : l.formed = (decide ((l.fr.length : Int) ≤ 40) && decide ((l.args.length : Int) ≤ 4)) := by
  unfold Lt.formed
  rw [Bool.eq_iff_iff]
  simp
  omega
 rw [e]
 clear e hb k0
 by_cases h3 : (l.fr.length : Int) ≤ 40
 ·rw [decide_eq_true h3, Bool.true_and]
  go_enter Tryz.func74, Tryz.ntmps74
  go_wp2_with fail
  all_goals go_ret
  all_goals exact ⟨rfl, HK.out⟩
 ·rw [decide_eq_false h3, Bool.false_and]
  go_enter Tryz.func74, Tryz.ntmps74
  go_wp2_with fail
  all_goals go_ret
  all_goals exact ⟨rfl, HK.out⟩
set_option maxHeartbeats 1000000 in
theorem lformed21 (l : Lt) (a : Option Addr) (c : Nat) (h1 : l.fr.length ≤ 9223372036854775807) (h2 : l.args.length ≤ 9223372036854775807) : Calls Tryz.prog 78 #[.agg #[.string ⟨l.fr.toArray⟩, .int .u64 (l.ser : Int), .int .i64 l.kind, .slice a l.args.length c]] w fun e w' => e = .returned (.bool l.formed) ∧ Kept [] w w' := by
 obtain ⟨W0, e0, k0, -, hb⟩ := box1 w (.cells #[.string ⟨l.fr.toArray⟩, .int .u64 (l.ser : Int), .int .i64 l.kind, .slice a l.args.length c] 81)
 obtain ⟨y0, y1, y2, y3⟩ := cells4 hb
 have HK := Hid.mk k0
 have e : l.formed = (decide ((l.fr.length : Int) ≤ 40) && decide ((l.args.length : Int) ≤ 4)) := by
  unfold Lt.formed
  rw [Bool.eq_iff_iff]
  simp
  omega
 rw [e]
 clear e hb k0
 by_cases h3 : (l.fr.length : Int) ≤ 40
 ·rw [decide_eq_true h3, Bool.true_and]
  go_enter Tryz.func78, Tryz.ntmps78
  go_wp2_with fail
  all_goals go_ret
  all_goals exact ⟨rfl, HK.out⟩
 ·rw [decide_eq_false h3, Bool.false_and]
  go_enter Tryz.func78, Tryz.ntmps78
  go_wp2_with fail
  all_goals go_ret
  all_goals exact ⟨rfl, HK.out⟩
end
section
variable {B : Bs} {w w' : World} {p : Nat} {m : Mc} {k : Nat} {stk : List Int} {ev sn tm : Value}
theorem MS.c_sn (h : MS B w p m k stk ev sn tm) : w.cell? ⟨p, 34, none⟩ = some sn := h.rs.cell_res (by rw [h.len]) (cellsR_sn h.rs.r8)
theorem MS.c_tm (h : MS B w p m k stk ev sn tm) : w.cell? ⟨p, 35, none⟩ = some tm := h.rs.cell_res (by rw [h.len]) (cellsR_tm h.rs.r8)
theorem MS.addSn (h : MS B w p m k stk ev sn tm) (hl : m.sent.length ≤ 900) (x : Sn) : ∃ ad c w2, (Builtin.append_ #[101, 101] 101 #[sn, .slice (some ⟨w.heap.size, 0, none⟩) 1 1]).run Tryz.prog (w.alloc (.cells #[.string ⟨x.to.toArray⟩, .int .i64 x.kind, .int .i64 x.arg] 235)) = .ok (.slice ad (m.sent.length + 1) c) w2 ∧ w2.cell? ⟨p, 34, none⟩ = some sn ∧ w2.frozen? ⟨p, 34, none⟩ = false ∧ MSt B (w2.setCell ⟨p, 34, none⟩ (.slice ad (m.sent.length + 1) c)) p { m with sent := m.sent ++ [x] } k := by
 obtain ⟨ad, c', w2, hrun, c2, f2, H2⟩ := h.rs.addSn rt34 tyM_ok (by omega) x 34 (by rw [h.len]) 235 (0, 0) 101
 exact ⟨ad, c', w2, hrun, c2, f2, stk, _, _, _, h.s16, h.top, H2⟩
theorem MS.addTm (h : MS B w p m k stk ev sn tm) (hl : m.tm.length ≤ 900) (x : Tm) : ∃ ad c w2, (Builtin.append_ #[37, 37] 37 #[tm, .slice (some ⟨w.heap.size, 0, none⟩) 1 1]).run Tryz.prog (w.alloc (.cells #[.string ⟨x.nm.toArray⟩, .bool x.can, .int .i64 x.due, .int .i64 x.per, .int .i64 x.kind] 194)) = .ok (.slice ad (m.tm.length + 1) c) w2 ∧ w2.cell? ⟨p, 35, none⟩ = some tm ∧ w2.frozen? ⟨p, 35, none⟩ = false ∧ MSt B (w2.setCell ⟨p, 35, none⟩ (.slice ad (m.tm.length + 1) c)) p { m with tm := m.tm ++ [x] } k := by
 obtain ⟨ad, c', w2, hrun, c2, f2, H2⟩ := h.rs.addTm rt35 tyM_ok (by omega) x 35 (by rw [h.len]) 194 (0, 0) 37
 exact ⟨ad, c', w2, hrun, c2, f2, stk, _, _, _, h.s16, h.top, H2⟩
set_option maxHeartbeats 4000000 in
theorem send45 (h : MSt B w p m k) (to : List UInt8) (kd x : Int) (hs : to.length ≤ 281474976710656) (h4 : m.sent.length ≤ 4) : Calls Tryz.prog 149 #[.pointer (some ⟨p, 0, none⟩), .string ⟨to.toArray⟩, .int .i64 kd, .int .i64 x] w fun e w' => (m.sent.length = 4 ∧ e = .returned (.int .i64 12) ∧ MSt B w' p m k) ∨ (m.sent.length < 4 ∧ e = .returned (.int .i64 0) ∧ MSt B w' p { m with sent := m.sent ++ [⟨to, kd, x⟩] } k) := by
 obtain ⟨stk, ev, sn, tm, h⟩ := h
 obtain ⟨a, c, rfl, -, -⟩ := h.rs.sn.form
 rw [rowS_length] at *
 have c0 := h.c_sn
 by_cases hq : m.sent.length = 4
 ·have HM : Hid (MSt B w p m k) := ⟨_, _, _, _, h⟩
  have HQ := Hid.mk hq
  rw [hq] at c0
  clear h hq h4
  go_enter Tryz.func149, Tryz.ntmps149
  go_wp2_with fail
  go_ret
  exact .inl ⟨HQ.out, rfl, HM.out⟩
 ·have HM := Hid.mk h
  have HQ : Hid (m.sent.length < 4) := by have := hq; show m.sent.length < 4; omega
  have hq' : ((m.sent.length : Int) == 4) = false := by simp only [beq_eq_false_iff_ne, ne_eq]; omega
  have hq2 : ¬ (m.sent.length : Int) = 4 := by omega
  have S0 : w.drew.cell? ⟨p, 34, none⟩ = some (.slice a m.sent.length c) := c0
  have HC : Hid (Calls Tryz.prog 83 #[.string ⟨to.toArray⟩] w.drew fun e w' => e = .returned (.string ⟨to.toArray⟩) ∧ Kept [] w.drew w') := clone49 to hs
  clear h hq h4
  go_enter Tryz.func149, Tryz.ntmps149
  go_wp2_with fail
  go_region_law (first | (refine step_append_run 101 (.tmp 21) (.tmp 27) (by rfl) (by rfl) _ _ (by rfl) (by rfl) hrun ?_) | (go_simp; go_at_call 83; refine Calls.mono HC.out ?_; rintro e w5 ⟨rfl, k5⟩; have h5 := HM.out.keep ((Kept.refl [] w).drew.then k5); obtain ⟨a6, c6, w6, hrun, q3, qf, s6⟩ := h5.addSn (by have := HQ.out; omega) ⟨to, kd, x⟩; have S6 := Hid.mk s6; clear s6; have q5 := h5.c_sn; have q6 := ((Kept.refl [] w5).alloc (.cells #[.string ⟨to.toArray⟩, .int .i64 kd, .int .i64 x] 235)).cell_eq q5; clear h5))
  all_goals
   clear q3 qf q5 q6 hrun
   go_wp2_with fail
   go_ret
   exact .inr ⟨HQ.out, rfl, S6.out⟩
end
def BadT (now x y : Int) : Prop := x < 0 ∨ 9223372036854775807 < now + x ∨ y < 1
section
variable {B : Bs} {w w' : World} {p : Nat} {m : Mc} {k : Nat} {stk : List Int} {ev sn tm : Value}
set_option maxHeartbeats 4000000 in
theorem remind46_bad (h : MSt B w p m k) (nm : List UInt8) (x y : Int) (hn : 0 ≤ B.now ∧ B.now ≤ 9223372036854775807) (hb : BadT B.now x y) : Calls Tryz.prog 150 #[.pointer (some ⟨p, 0, none⟩), .string ⟨nm.toArray⟩, .int .i64 x, .int .i64 y] w fun e w' => e = .returned (.int .i64 12) ∧ MSt B w' p m k := by
 obtain ⟨stk, ev, sn, tm, h⟩ := h
 have c0 : w.cell? ⟨p, 6, none⟩ = some (.int .i64 B.now) := h.fix rfl
 have HM : Hid (MSt B w p m k) := ⟨_, _, _, _, h⟩
 have e0 : IntKind.i64.wrap (9223372036854775807 - B.now) = 9223372036854775807 - B.now := w64_small _ (by omega)
 have e1 : (9223372036854775807 - B.now < x) ↔ 9223372036854775807 < B.now + x := by omega
 have HB : Hid (x < 0 ∨ 9223372036854775807 - B.now < x ∨ y < 1) := by
  rcases hb with h | h | h
  ·exact .inl h
  ·exact .inr (.inl (e1.2 h))
  ·exact .inr (.inr h)
 clear h hb e1 hn
 generalize B.now = now at *
 by_cases h1 : x < 0
 ·go_enter Tryz.func150, Tryz.ntmps150
  go_wp2_with fail
  go_ret
  exact ⟨rfl, HM.out⟩
 ·by_cases h2 : 9223372036854775807 - now < x
  ·go_enter Tryz.func150, Tryz.ntmps150
   go_wp2_with fail
   go_ret
   exact ⟨rfl, HM.out⟩
  ·have h3 : y < 1 := by
    rcases HB.out with h | h | h
    ·exact absurd h h1
    ·exact absurd h h2
    ·exact h
   clear HB
   go_enter Tryz.func150, Tryz.ntmps150
   go_wp2_with fail
   go_ret
   exact ⟨rfl, HM.out⟩
set_option maxHeartbeats 4000000 in
theorem remind46 (h : MSt B w p m k) (nm : List UInt8) (x y : Int) (hs : nm.length ≤ 281474976710656) (hl : m.tm.length ≤ 900) (hn : 0 ≤ B.now ∧ B.now ≤ 9223372036854775807) (hb : ¬ BadT B.now x y) : Calls Tryz.prog 150 #[.pointer (some ⟨p, 0, none⟩), .string ⟨nm.toArray⟩, .int .i64 x, .int .i64 y] w fun e w' => e = .returned (.int .i64 0) ∧ MSt B w' p { m with tm := m.tm ++ [⟨nm, false, B.now + x, y, B.l.kind⟩] } k := by
 obtain ⟨stk, ev, sn, tm, h⟩ := h
 obtain ⟨a, c, rfl, -, -⟩ := h.rs.tm.form
 rw [rowT_length] at *
 have hx0 : ¬ x < 0 := fun h => hb (.inl h)
 have hx1 : ¬ 9223372036854775807 < B.now + x := fun h => hb (.inr (.inl h))
 have hy1 : ¬ y < 1 := fun h => hb (.inr (.inr h))
 have c0 : w.cell? ⟨p, 6, none⟩ = some (.int .i64 B.now) := h.fix rfl
 have e0 : IntKind.i64.wrap (9223372036854775807 - B.now) = 9223372036854775807 - B.now := w64_small _ (by omega)
 have e1 : IntKind.i64.wrap (B.now + x) = B.now + x := w64_small _ (by omega)
 have hx2 : ¬ 9223372036854775807 - B.now < x := by omega
 have HM := Hid.mk h
 have HL := Hid.mk hl
 have S0 : w.drew.cell? ⟨p, 35, none⟩ = some (.slice a m.tm.length c) := h.c_tm
 have S1 : w.drew.cell? ⟨p, 6, none⟩ = some (.int .i64 B.now) := c0
 have S2 : w.drew.cell? ⟨p, 4, none⟩ = some (.int .i64 B.l.kind) := h.fix rfl
 have HC : Hid (Calls Tryz.prog 83 #[.string ⟨nm.toArray⟩] w.drew fun e w' => e = .returned (.string ⟨nm.toArray⟩) ∧ Kept [] w.drew w') := clone49 nm hs
 clear h hb hl hx1 hn
 go_enter Tryz.func150, Tryz.ntmps150
 go_wp2_with fail
 go_region_law (first | (refine step_append_run 37 (.tmp 29) (.tmp 45) (by rfl) (by rfl) _ _ (by rfl) (by rfl) hrun ?_) | (go_simp; go_at_call 83; refine Calls.mono HC.out ?_; rintro e w5 ⟨rfl, k5⟩; have h5 := HM.out.keep ((Kept.refl [] w).drew.then k5); obtain ⟨a6, c6, w6, hrun, q3, qf, s6⟩ := h5.addTm HL.out ⟨nm, false, B.now + x, y, B.l.kind⟩; have S6 := Hid.mk s6; clear s6; have q5 := h5.c_tm; have q7 : w5.cell? ⟨p, 6, none⟩ = some (.int .i64 B.now) := h5.fix rfl; have q8 : w5.cell? ⟨p, 4, none⟩ = some (.int .i64 B.l.kind) := h5.fix rfl; have q6 := ((Kept.refl [] w5).alloc (.cells #[.string ⟨nm.toArray⟩, .bool false, .int .i64 (B.now + x), .int .i64 y, .int .i64 B.l.kind] 194)).cell_eq q5; clear h5))
 all_goals
  clear q3 qf q5 q6 hrun
  go_wp2_with fail
  go_ret
  exact ⟨rfl, S6.out⟩
set_option maxHeartbeats 4000000 in
theorem cancel47 (h : MSt B w p m k) (nm : List UInt8) (hs : nm.length ≤ 281474976710656) (hl : m.tm.length ≤ 900) : Calls Tryz.prog 151 #[.pointer (some ⟨p, 0, none⟩), .string ⟨nm.toArray⟩] w fun e w' => e = .returned (.tuple #[]) ∧ MSt B w' p { m with tm := m.tm ++ [⟨nm, true, 0, 0, 0⟩] } k := by
 obtain ⟨stk, ev, sn, tm, h⟩ := h
 obtain ⟨a, c, rfl, -, -⟩ := h.rs.tm.form
 rw [rowT_length] at *
 have HM := Hid.mk h
 have HL := Hid.mk hl
 have S0 : w.drew.cell? ⟨p, 35, none⟩ = some (.slice a m.tm.length c) := h.c_tm
 have HC : Hid (Calls Tryz.prog 83 #[.string ⟨nm.toArray⟩] w.drew fun e w' => e = .returned (.string ⟨nm.toArray⟩) ∧ Kept [] w.drew w') := clone49 nm hs
 clear h hl
 go_enter Tryz.func151, Tryz.ntmps151
 go_wp2_with fail
 go_region_law (first | (refine step_append_run 37 (.tmp 9) (.tmp 13) (by rfl) (by rfl) _ _ (by rfl) (by rfl) hrun ?_) | (go_simp; go_at_call 83; refine Calls.mono HC.out ?_; rintro e w5 ⟨rfl, k5⟩; have h5 := HM.out.keep ((Kept.refl [] w).drew.then k5); obtain ⟨a6, c6, w6, hrun, q3, qf, s6⟩ := h5.addTm HL.out ⟨nm, true, 0, 0, 0⟩; have S6 := Hid.mk s6; clear s6; have q5 := h5.c_tm; have q6 := ((Kept.refl [] w5).alloc (.cells #[.string ⟨nm.toArray⟩, .bool true, .int .i64 0, .int .i64 0, .int .i64 0] 194)).cell_eq q5; clear h5))
 all_goals
  clear q3 qf q5 q6 hrun
  go_wp2_with fail
  go_end0
  exact ⟨rfl, S6.out⟩
end
section
variable {B : Bs} {w w' : World} {p : Nat} {m : Mc} {k : Nat} {stk : List Int} {ev sn tm : Value}
theorem MS.c_at (h : MS B w p m k stk ev sn tm) : w.cell? ⟨p, 7, none⟩ = some (Iv_N (m.at_ : Int)) := h.rs.cell_pre rfl
theorem MS.put_at (h : MS B w p m k stk ev sn tm) (n : Nat) : MSt B (w.setCell ⟨p, 7, none⟩ (Iv_N (n : Int))) p { m with at_ := n } k :=
 ⟨stk, ev, sn, tm, h.s16, h.top, h.rs.put_pre tyM_ok (Iv_N (n : Int)) (by rw [h.len]; omega) rfl⟩
theorem MS.c_code (hB : B.Ok) (h : MS B w p m k stk ev sn tm) : ∃ b d, w.cell? ⟨p, 1, none⟩ = some (.slice b B.pg.code.length d) ∧ B.cv = .slice b B.pg.code.length d := by
 obtain ⟨a, c, b, d, h1, h2, -⟩ := hB.prog.form
 exact ⟨b, d, by rw [← h2]; exact h.fix rfl, h2⟩
set_option maxHeartbeats 2000000 in
theorem act32_0 (hB : B.Ok) (h : MSt B w p m k) (arg x y : Int) : Calls Tryz.prog 127 #[.pointer (some ⟨p, 0, none⟩), .agg #[.int .i64 0, .int .i64 arg], .int .i64 x, .int .i64 y] w fun e w' => e = .returned (.int .i64 0) ∧ MSt B w' p { m with at_ := B.pg.code.length } k := by
 obtain ⟨W0, e0, k0, -, hb⟩ := box1 w (.cells #[.int .i64 0, .int .i64 arg] 83)
 obtain ⟨y0, y1⟩ := cells2_N hb
 obtain ⟨stk, ev, sn, tm, h⟩ := h.keep k0
 obtain ⟨b, d, c0, -⟩ := h.c_code hB
 have c1 := h.c_at
 have f1 := h.rs.free 7
 have HM := Hid.mk (h.put_at B.pg.code.length)
 clear h
 go_enter Tryz.func127, Tryz.ntmps127
 go_wp2_with fail
 go_ret
 exact ⟨rfl, HM.out⟩
set_option maxHeartbeats 2000000 in
theorem act32_13 (h : MSt B w p m k) (arg x y : Int) : Calls Tryz.prog 127 #[.pointer (some ⟨p, 0, none⟩), .agg #[.int .i64 13, .int .i64 arg], .int .i64 x, .int .i64 y] w fun e w' => e = .returned (.int .i64 0) ∧ MSt B w' p m k := by
 obtain ⟨W0, e0, k0, -, hb⟩ := box1 w (.cells #[.int .i64 13, .int .i64 arg] 83)
 obtain ⟨y0, y1⟩ := cells2_N hb
 have HM := Hid.mk (h.keep k0)
 clear h
 go_enter Tryz.func127, Tryz.ntmps127
 go_wp2_with fail
 go_ret
 exact ⟨rfl, HM.out⟩
set_option maxHeartbeats 2000000 in
theorem act32_21 (h : MSt B w p m k) (arg x y : Int) : Calls Tryz.prog 127 #[.pointer (some ⟨p, 0, none⟩), .agg #[.int .i64 21, .int .i64 arg], .int .i64 x, .int .i64 y] w fun e w' => e = .returned (.int .i64 12) ∧ MSt B w' p m k := by
 obtain ⟨W0, e0, k0, -, hb⟩ := box1 w (.cells #[.int .i64 21, .int .i64 arg] 83)
 obtain ⟨y0, y1⟩ := cells2_N hb
 have HM := Hid.mk (h.keep k0)
 clear h
 go_enter Tryz.func127, Tryz.ntmps127
 go_wp2_with fail
 go_ret
 exact ⟨rfl, HM.out⟩
set_option maxHeartbeats 2000000 in
theorem act32_3 (h : MSt B w p m k) (n : Nat) (hn : n ≤ 7) (x y : Int) (hl : m.ev.length ≤ 900) : Calls Tryz.prog 127 #[.pointer (some ⟨p, 0, none⟩), .agg #[.int .i64 3, .int .i64 (n : Int)], .int .i64 x, .int .i64 y] w fun e w' => e = .returned (.int .i64 0) ∧ MSt B w' p { m with reg := m.reg.set n x, ev := m.ev ++ [⟨n, x⟩] } k := by
 obtain ⟨W0, e0, k0, -, hb⟩ := box1 w (.cells #[.int .i64 3, .int .i64 (n : Int)] 83)
 obtain ⟨y0, y1⟩ := cells2_N hb
 have HC := Hid.mk (store44 (h.keep k0) n hn x hl)
 clear h
 go_enter Tryz.func127, Tryz.ntmps127
 go_wp2_with (go_at_call 148; refine HC.out.mono ?_; rintro e w1 ⟨rfl, h1⟩)
 go_ret
 exact ⟨rfl, h1⟩
set_option maxHeartbeats 2000000 in
theorem act32_15 (h : MSt B w p m k) (n : Nat) (x y : Int) : Calls Tryz.prog 127 #[.pointer (some ⟨p, 0, none⟩), .agg #[.int .i64 15, .int .i64 (n : Int)], .int .i64 x, .int .i64 y] w fun e w' => e = .returned (.int .i64 0) ∧ MSt B w' p { m with at_ := n } k := by
 obtain ⟨W0, e0, k0, -, hb⟩ := box1 w (.cells #[.int .i64 15, .int .i64 (n : Int)] 83)
 obtain ⟨y0, y1⟩ := cells2_N hb
 obtain ⟨stk, ev, sn, tm, h⟩ := h.keep k0
 have c1 := h.c_at
 have f1 := h.rs.free 7
 have HM := Hid.mk (h.put_at n)
 clear h
 go_enter Tryz.func127, Tryz.ntmps127
 go_wp2_with fail
 go_ret
 exact ⟨rfl, HM.out⟩
set_option maxHeartbeats 2000000 in
theorem act32_16 (h : MSt B w p m k) (n : Nat) (x y : Int) : Calls Tryz.prog 127 #[.pointer (some ⟨p, 0, none⟩), .agg #[.int .i64 16, .int .i64 (n : Int)], .int .i64 x, .int .i64 y] w fun e w' => e = .returned (.int .i64 0) ∧ MSt B w' p { m with at_ := if x = 0 then n else m.at_ } k := by
 obtain ⟨W0, e0, k0, -, hb⟩ := box1 w (.cells #[.int .i64 16, .int .i64 (n : Int)] 83)
 obtain ⟨y0, y1⟩ := cells2_N hb
 obtain ⟨stk, ev, sn, tm, h⟩ := h.keep k0
 have c1 := h.c_at
 have f1 := h.rs.free 7
 by_cases hx : x = 0
 ·subst hx
  rw [if_pos rfl]
  have HM := Hid.mk (h.put_at n)
  clear h
  go_enter Tryz.func127, Tryz.ntmps127
  go_wp2_with fail
  go_ret
  exact ⟨rfl, HM.out⟩
 ·rw [if_neg hx]
  have HM : Hid (MSt B W0 p m k) := ⟨_, _, _, _, h⟩
  have hx' : (x == 0) = false := by simpa using hx
  clear h
  go_enter Tryz.func127, Tryz.ntmps127
  go_wp2_with fail
  go_ret
  exact ⟨rfl, HM.out⟩
end
def SendP (B : Bs) (p : Nat) (m : Mc) (k : Nat) (to : List UInt8) (x y c : Int) (w' : World) : Prop := (m.sent.length = 4 ∧ c = 12 ∧ MSt B w' p m k) ∨ (m.sent.length < 4 ∧ c = 0 ∧ MSt B w' p { m with sent := m.sent ++ [⟨to, x, y⟩] } k)
def TimeP (B : Bs) (p : Nat) (m : Mc) (k : Nat) (s : List UInt8) (x y c : Int) (w' : World) : Prop := (BadT B.now x y ∧ c = 12 ∧ MSt B w' p m k) ∨ (¬ BadT B.now x y ∧ c = 0 ∧ MSt B w' p { m with tm := m.tm ++ [⟨s, false, B.now + x, y, B.l.kind⟩] } k)
section
variable {B : Bs} {w w' : World} {p : Nat} {m : Mc} {k : Nat} {stk : List Int} {ev sn tm : Value}
theorem send45_any (h : MSt B w p m k) (to : List UInt8) (kd x : Int) (hs : to.length ≤ 281474976710656) (h4 : m.sent.length ≤ 4) : Calls Tryz.prog 149 #[.pointer (some ⟨p, 0, none⟩), .string ⟨to.toArray⟩, .int .i64 kd, .int .i64 x] w fun e w' => ∃ c, e = .returned (.int .i64 c) ∧ SendP B p m k to kd x c w' :=
 (send45 h to kd x hs h4).mono fun e w' h => by
  rcases h with ⟨h1, h2, h3⟩ | ⟨h1, h2, h3⟩
  ·exact ⟨12, h2, .inl ⟨h1, rfl, h3⟩⟩
  ·exact ⟨0, h2, .inr ⟨h1, rfl, h3⟩⟩
theorem MS.c_name (hB : B.Ok) (h : MS B w p m k stk ev sn tm) {n : Nat} {s : List UInt8} (hn : B.pg.names[n]? = some s) : ∃ b o c, w.cell? ⟨p, 0, none⟩ = some (.slice (some ⟨b, o, none⟩) B.pg.names.length c) ∧ w.cell? ⟨b, o + n, none⟩ = some (.string ⟨s.toArray⟩) := by
 obtain ⟨a, c, b, d, h1, h2, -⟩ := hB.prog.form
 have hN := (hB.prog.keep h.rs.kept).names
 rw [h1] at hN
 obtain ⟨hl, he⟩ := List.getElem?_eq_some_iff.1 hn
 obtain ⟨b, o, rfl, hc⟩ := names_at hN hl
 rw [he] at hc
 exact ⟨b, o, c, by rw [← h1]; exact h.fix rfl, hc⟩
set_option maxHeartbeats 4000000 in
theorem act32_17 (hB : B.Ok) (h : MSt B w p m k) (n : Nat) (s : List UInt8) (hn : B.pg.names[n]? = some s) (hs : s.length ≤ 281474976710656) (x y : Int) (h4 : m.sent.length ≤ 4) : Calls Tryz.prog 127 #[.pointer (some ⟨p, 0, none⟩), .agg #[.int .i64 17, .int .i64 (n : Int)], .int .i64 x, .int .i64 y] w fun e w' => ∃ c, e = .returned (.int .i64 c) ∧ SendP B p m k s x y c w' := by
 obtain ⟨W0, e0, k0, -, hb⟩ := box1 w (.cells #[.int .i64 17, .int .i64 (n : Int)] 83)
 obtain ⟨y0, y1⟩ := cells2_N hb
 have h0 := h.keep (k0.then (Kept.refl [] W0).drew)
 have HC := Hid.mk (send45_any h0 s x y hs h4)
 obtain ⟨stk, ev, sn, tm, h0⟩ := h0
 obtain ⟨b, o, c, c0, c1⟩ := h0.c_name hB hn
 have S1 : W0.drew.cell? ⟨w.heap.size, 1, none⟩ = some (.int .i64 (n : Int)) := y1
 have q0 : (0 : Int) ≤ (n : Int) := by omega
 have q1 : (n : Int) < (B.pg.names.length : Int) := by have := (List.getElem?_eq_some_iff.1 hn).1; omega
 clear h h0 hn h4 hs hB
 go_enter Tryz.func127, Tryz.ntmps127
 go_wp2_with fail
 go_region_law (go_simp; go_at_call 149; refine HC.out.mono ?_; rintro e w1 ⟨cc, rfl, r3⟩)
 all_goals
  go_wp2_with fail
  go_ret
  exact ⟨cc, rfl, r3⟩
set_option maxHeartbeats 4000000 in
theorem act32_18 (h : MSt B w p m k) (arg x y : Int) (hs : B.l.fr.length ≤ 281474976710656) (h4 : m.sent.length ≤ 4) : Calls Tryz.prog 127 #[.pointer (some ⟨p, 0, none⟩), .agg #[.int .i64 18, .int .i64 arg], .int .i64 x, .int .i64 y] w fun e w' => ∃ c, e = .returned (.int .i64 c) ∧ ((B.l.fr = [] ∧ c = 0 ∧ MSt B w' p m k) ∨ (B.l.fr ≠ [] ∧ SendP B p m k B.l.fr x y c w')) := by
 obtain ⟨W0, e0, k0, -, hb⟩ := box1 w (.cells #[.int .i64 18, .int .i64 arg] 83)
 obtain ⟨y0, y1⟩ := cells2_N hb
 have h0 := h.keep k0
 have HM := Hid.mk h0
 have HC := Hid.mk (send45_any h0 B.l.fr x y hs h4)
 obtain ⟨stk, ev, sn, tm, h0⟩ := h0
 have c0 : W0.cell? ⟨p, 2, none⟩ = some (.string ⟨B.l.fr.toArray⟩) := h0.fix rfl
 clear h h0 h4 hs
 by_cases hf : B.l.fr = []
 ·have HF := Hid.mk hf
  rw [hf] at c0
  clear hf
  go_enter Tryz.func127, Tryz.ntmps127
  go_wp2_with fail
  go_ret
  exact ⟨0, rfl, .inl ⟨HF.out, rfl, HM.out⟩⟩
 ·have HF := Hid.mk hf
  have hne : B.l.fr.isEmpty = false := by simpa using hf
  clear hf
  generalize B.l.fr = fr at *
  go_enter Tryz.func127, Tryz.ntmps127
  go_wp2_with (go_at_call 149; refine HC.out.mono ?_; rintro e w1 ⟨cc, rfl, r3⟩)
  go_ret
  exact ⟨cc, rfl, .inr ⟨HF.out, r3⟩⟩
set_option maxHeartbeats 4000000 in
theorem act32_19 (hB : B.Ok) (h : MSt B w p m k) (n : Nat) (s : List UInt8) (hn : B.pg.names[n]? = some s) (hs : s.length ≤ 281474976710656) (x y : Int) (hl : m.tm.length ≤ 900) (hnow : 0 ≤ B.now ∧ B.now ≤ 9223372036854775807) : Calls Tryz.prog 127 #[.pointer (some ⟨p, 0, none⟩), .agg #[.int .i64 19, .int .i64 (n : Int)], .int .i64 x, .int .i64 y] w fun e w' => ∃ c, e = .returned (.int .i64 c) ∧ TimeP B p m k s x y c w' := by
 obtain ⟨W0, e0, k0, -, hb⟩ := box1 w (.cells #[.int .i64 19, .int .i64 (n : Int)] 83)
 obtain ⟨y0, y1⟩ := cells2_N hb
 have h0 := h.keep (k0.then (Kept.refl [] W0).drew)
 have HC : Hid (Calls Tryz.prog 150 #[.pointer (some ⟨p, 0, none⟩), .string ⟨s.toArray⟩, .int .i64 x, .int .i64 y] W0.drew fun e w' => ∃ c, e = .returned (.int .i64 c) ∧ TimeP B p m k s x y c w') := by
  by_cases hb : BadT B.now x y
  ·exact (remind46_bad h0 s x y hnow hb).mono fun e w' h => ⟨12, h.1, .inl ⟨hb, rfl, h.2⟩⟩
  ·exact (remind46 h0 s x y hs hl hnow hb).mono fun e w' h => ⟨0, h.1, .inr ⟨hb, rfl, h.2⟩⟩
 obtain ⟨stk, ev, sn, tm, h0⟩ := h0
 obtain ⟨b, o, c, c0, c1⟩ := h0.c_name hB hn
 have S1 : W0.drew.cell? ⟨w.heap.size, 1, none⟩ = some (.int .i64 (n : Int)) := y1
 have q0 : (0 : Int) ≤ (n : Int) := by omega
 have q1 : (n : Int) < (B.pg.names.length : Int) := by have := (List.getElem?_eq_some_iff.1 hn).1; omega
 clear h h0 hn hs hB hl hnow
 go_enter Tryz.func127, Tryz.ntmps127
 go_wp2_with fail
 go_region_law (go_simp; go_at_call 150; refine HC.out.mono ?_; rintro e w1 ⟨cc, rfl, r3⟩)
 all_goals
  go_wp2_with fail
  go_ret
  exact ⟨cc, rfl, r3⟩
set_option maxHeartbeats 4000000 in
theorem act32_20 (hB : B.Ok) (h : MSt B w p m k) (n : Nat) (s : List UInt8) (hn : B.pg.names[n]? = some s) (hs : s.length ≤ 281474976710656) (x y : Int) (hl : m.tm.length ≤ 900) : Calls Tryz.prog 127 #[.pointer (some ⟨p, 0, none⟩), .agg #[.int .i64 20, .int .i64 (n : Int)], .int .i64 x, .int .i64 y] w fun e w' => e = .returned (.int .i64 0) ∧ MSt B w' p { m with tm := m.tm ++ [⟨s, true, 0, 0, 0⟩] } k := by
 obtain ⟨W0, e0, k0, -, hb⟩ := box1 w (.cells #[.int .i64 20, .int .i64 (n : Int)] 83)
 obtain ⟨y0, y1⟩ := cells2_N hb
 have h0 := h.keep (k0.then (Kept.refl [] W0).drew)
 have HC := Hid.mk (cancel47 h0 s hs hl)
 obtain ⟨stk, ev, sn, tm, h0⟩ := h0
 obtain ⟨b, o, c, c0, c1⟩ := h0.c_name hB hn
 have S1 : W0.drew.cell? ⟨w.heap.size, 1, none⟩ = some (.int .i64 (n : Int)) := y1
 have q0 : (0 : Int) ≤ (n : Int) := by omega
 have q1 : (n : Int) < (B.pg.names.length : Int) := by have := (List.getElem?_eq_some_iff.1 hn).1; omega
 clear h h0 hn hs hB hl
 go_enter Tryz.func127, Tryz.ntmps127
 go_wp2_with fail
 go_region_law (go_simp; go_at_call 151; refine HC.out.mono ?_; rintro e w1 ⟨rfl, r3⟩)
 all_goals
  go_wp2_with fail
  go_ret
  exact ⟨rfl, r3⟩
end
end Go.Proofs.YtngnenbidpojeaaGreatDoor
