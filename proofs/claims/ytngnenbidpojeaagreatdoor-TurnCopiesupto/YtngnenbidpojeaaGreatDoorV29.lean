import Derived.Shelf.Pu.Clone
import Derived.Ground.MpProg
import Derived.Lib.Bytealg
import Derived.Test.YtngnenbidpojeaaGreatDoorV05
import Derived.Test.YtngnenbidpojeaaGreatDoorV22
import Derived.Test.YtngnenbidpojeaaGreatDoorV26
/-
  The program's machine in memory; push, pop, a letter's argument.
-/
namespace Go.Proofs.YtngnenbidpojeaaGreatDoor
open Go.RowKit
set_option maxRecDepth 100000
set_option linter.unusedVariables false
/-- What a run stands on: a program, a letter and a tick, and where their rows lie; w0: the world ahead of it. -/
structure Bs where
  w0 : World
  nv : Value
  cv : Value
  av : Value
  pg : Pg
  l : Lt
  now : Int
def Bs.fix (B : Bs) : List Value := [B.nv, B.cv, .string ⟨B.l.fr.toArray⟩, .int .u64 (B.l.ser : Int), .int .i64 B.l.kind, B.av, .int .i64 B.now]
structure Bs.Ok (B : Bs) : Prop where
  prog : IsP_N B.w0 B.nv B.cv B.pg
  args : ReadsR 1 B.w0 B.av (rowJ B.l.args)
def tyM : Ty := ⟨181, 92, 235, 194⟩
theorem tyM_ok : tyM.Ok := by unfold Ty.Ok tyM; decide
def preM (B : Bs) (pl : Int) (stk : List Int) (d : Int) : List Value := B.fix ++ (.int .i64 pl :: (BI_N stk ++ [.int .i64 d]))
section
variable {B : Bs} {pl d : Int} {stk : List Int}
theorem preM_length (hs : stk.length = 16) : (preM B pl stk d).length = 25 := by simp [preM, Bs.fix, BI_length_N, hs]
theorem preM_stk (hs : stk.length = 16) {i : Nat} {x : Int} (hi : stk[i]? = some x) : (preM B pl stk d)[8 + i]? = some (Iv_N x) := by
  have hl : i < (BI_N stk).length := by rw [BI_length_N]; exact (List.getElem?_eq_some_iff.1 hi).1
  unfold preM
  rw [List.getElem?_append_right (by simp [Bs.fix]; omega), show 8 + i - B.fix.length = i + 1 by simp [Bs.fix]; omega, List.getElem?_cons_succ, List.getElem?_append_left hl]
  exact BI_get_N hi
theorem preM_dep (hs : stk.length = 16) : (preM B pl stk d)[24]? = some (Iv_N d) := by
  unfold preM
  rw [List.getElem?_append_right (by simp [Bs.fix]), show 24 - B.fix.length = 16 + 1 by simp [Bs.fix], List.getElem?_cons_succ, List.getElem?_append_right (by rw [BI_length_N]; omega), BI_length_N, hs]
  rfl
theorem preM_set_stk (hs : stk.length = 16) {i : Nat} (hi : i < 16) (x : Int) : (preM B pl stk d).set (8 + i) (Iv_N x) = preM B pl (stk.set i x) d := by
  unfold preM
  rw [List.set_append_right _ _ (by simp [Bs.fix]; omega), show 8 + i - B.fix.length = i + 1 by simp [Bs.fix]; omega, List.set_cons_succ, List.set_append_left _ _ (by rw [BI_length_N]; omega), BI_set_N]
theorem preM_set_dep (hs : stk.length = 16) (q : Int) : (preM B pl stk d).set 24 (Iv_N q) = preM B pl stk q := by
  unfold preM
  rw [List.set_append_right _ _ (by simp [Bs.fix]), show 24 - B.fix.length = 16 + 1 by simp [Bs.fix], List.set_cons_succ, List.set_append_right _ _ (by rw [BI_length_N]; omega), BI_length_N, hs]
  rfl
end
/-- The machine at block p. -/
structure MS (B : Bs) (w : World) (p : Nat) (m : Mc) (k : Nat) (stk : List Int) (ev sn tm : Value) : Prop where
  s16 : stk.length = 16
  top : stk.take m.st.length = m.st
  rs : RS tyM B.w0 w p (preM B (m.at_ : Int) stk (m.st.length : Int)) m.reg m.ev m.sent m.tm k ev sn tm
def MSt (B : Bs) (w : World) (p : Nat) (m : Mc) (k : Nat) : Prop := ∃ stk ev sn tm, MS B w p m k stk ev sn tm
section
variable {B : Bs} {w w' : World} {p : Nat} {m : Mc} {k : Nat} {stk : List Int} {ev sn tm : Value}
theorem MS.le (h : MS B w p m k stk ev sn tm) : m.st.length ≤ 16 := by
  have := congrArg List.length h.top
  rw [List.length_take, h.s16] at this
  omega
theorem MS.keep (h : MS B w p m k stk ev sn tm) (kk : Kept [] w w') : MS B w' p m k stk ev sn tm := ⟨h.s16, h.top, h.rs.keep kk⟩
theorem MSt.keep (h : MSt B w p m k) (kk : Kept [] w w') : MSt B w' p m k := by
  obtain ⟨stk, ev, sn, tm, h⟩ := h
  exact ⟨stk, ev, sn, tm, h.keep kk⟩
theorem MSt.kept (h : MSt B w p m k) : Kept [] B.w0 w := by
  obtain ⟨stk, ev, sn, tm, h⟩ := h
  exact h.rs.kept
theorem MSt.le (h : MSt B w p m k) : m.st.length ≤ 16 := by
  obtain ⟨stk, ev, sn, tm, h⟩ := h
  exact h.le
theorem MSt.r8 (h : MSt B w p m k) : m.reg.length = 8 := by
  obtain ⟨stk, ev, sn, tm, h⟩ := h
  exact h.rs.r8
theorem MS.dep (h : MS B w p m k stk ev sn tm) : w.cell? ⟨p, 24, none⟩ = some (Iv_N (m.st.length : Int)) := h.rs.cell_pre (preM_dep h.s16)
theorem MS.len (h : MS B w p m k stk ev sn tm) : (preM B (m.at_ : Int) stk (m.st.length : Int)).length = 25 := preM_length h.s16
/-- An integer is laid on the stack. -/
theorem MS.pushed (h : MS B w p m k stk ev sn tm) (x : Int) (hl : m.st.length < 16) : (∃ y, w.cell? ⟨p, 8 + m.st.length, none⟩ = some (Iv_N y)) ∧ (w.setCell ⟨p, 8 + m.st.length, none⟩ (Iv_N x)).cell? ⟨p, 24, none⟩ = some (Iv_N (m.st.length : Int)) ∧ (w.setCell ⟨p, 8 + m.st.length, none⟩ (Iv_N x)).frozen? ⟨p, 24, none⟩ = false ∧ MSt B ((w.setCell ⟨p, 8 + m.st.length, none⟩ (Iv_N x)).setCell ⟨p, 24, none⟩ (Iv_N ((m.st.length : Int) + 1))) p { m with st := m.st ++ [x] } k := by
  obtain ⟨y, hy⟩ : ∃ y, stk[m.st.length]? = some y := ⟨_, List.getElem?_eq_getElem (by rw [h.s16]; exact hl)⟩
  have h1 : RS tyM B.w0 (w.setCell ⟨p, 8 + m.st.length, none⟩ (Iv_N x)) p (preM B (m.at_ : Int) (stk.set m.st.length x) (m.st.length : Int)) m.reg m.ev m.sent m.tm k ev sn tm := h.rs.put_pre tyM_ok (Iv_N x) (by rw [h.len]; omega) (preM_set_stk h.s16 hl x)
  have s' : (stk.set m.st.length x).length = 16 := by rw [List.length_set]; exact h.s16
  refine ⟨⟨y, h.rs.cell_pre (preM_stk h.s16 hy)⟩, h1.cell_pre (preM_dep s'), h1.free _, stk.set m.st.length x, ev, sn, tm, s', ?_, ?_⟩
  · show (stk.set m.st.length x).take (m.st ++ [x]).length = m.st ++ [x]
    rw [List.length_append, List.length_singleton, List.take_add_one, List.getElem?_set_self (by rw [h.s16]; exact hl), List.take_set_of_le (Nat.le_refl _), h.top]
    rfl
  · have := h1.put_pre tyM_ok (Iv_N ((m.st.length : Int) + 1)) (o := 24) (by rw [preM_length s']; omega) (preM_set_dep s' _)
    show RS tyM B.w0 _ p (preM B (m.at_ : Int) (stk.set m.st.length x) ((m.st ++ [x]).length : Int)) m.reg m.ev m.sent m.tm k ev sn tm
    rw [List.length_append, List.length_singleton]
    exact this
/-- The top is taken. -/
theorem MS.popped (h : MS B w p m k stk ev sn tm) (hl : m.st ≠ []) : ∃ n, m.st.length = n + 1 ∧ (w.setCell ⟨p, 24, none⟩ (Iv_N (n : Int))).cell? ⟨p, 24, none⟩ = some (Iv_N (n : Int)) ∧ (w.setCell ⟨p, 24, none⟩ (Iv_N (n : Int))).cell? ⟨p, 8 + n, none⟩ = some (Iv_N (m.st.getLastD 0)) ∧ MSt B (w.setCell ⟨p, 24, none⟩ (Iv_N (n : Int))) p { m with st := m.st.dropLast } k := by
  obtain ⟨n, hn⟩ : ∃ n, m.st.length = n + 1 := ⟨m.st.length - 1, by have := List.length_pos_iff.2 hl; omega⟩
  have h1 : RS tyM B.w0 (w.setCell ⟨p, 24, none⟩ (Iv_N (n : Int))) p (preM B (m.at_ : Int) stk (n : Int)) m.reg m.ev m.sent m.tm k ev sn tm := h.rs.put_pre tyM_ok (Iv_N (n : Int)) (o := 24) (by rw [h.len]; omega) (preM_set_dep h.s16 _)
  have hle := h.le
  have hg : stk[n]? = some (m.st.getLastD 0) := by
    obtain ⟨v, hv⟩ : ∃ v, m.st.getLast? = some v := ⟨_, List.getLast?_eq_some_getLast hl⟩
    have e0 : m.st.getLastD 0 = v := by rw [List.getLastD_eq_getLast?, hv]; rfl
    rw [List.getLast?_eq_getElem?, hn, Nat.add_sub_cancel, ← h.top, List.getElem?_take, hn, if_pos (Nat.lt_succ_self n)] at hv
    rw [e0, hv]
  refine ⟨n, hn, h1.cell_pre (preM_dep h.s16), h1.cell_pre (preM_stk h.s16 hg), stk, ev, sn, tm, h.s16, ?_, ?_⟩
  · show stk.take m.st.dropLast.length = m.st.dropLast
    rw [List.length_dropLast, hn, Nat.add_sub_cancel, List.dropLast_eq_take, hn, Nat.add_sub_cancel, ← h.top, hn, List.take_take, Nat.min_eq_left (Nat.le_succ n)]
  · show RS tyM B.w0 _ p (preM B (m.at_ : Int) stk (m.st.dropLast.length : Int)) m.reg m.ev m.sent m.tm k ev sn tm
    rw [List.length_dropLast, hn, Nat.add_sub_cancel]
    exact h1
set_option maxHeartbeats 2000000 in
theorem push41 (h : MSt B w p m k) (x : Int) (hl : m.st.length < 16) : Calls Tryz.prog 145 #[.pointer (some ⟨p, 0, none⟩), .int .i64 x] w fun e w' => e = .returned (.tuple #[]) ∧ MSt B w' p { m with st := m.st ++ [x] } k := by
  obtain ⟨stk, ev, sn, tm, h⟩ := h
  obtain ⟨⟨y, c0⟩, c1, f1, HM⟩ := h.pushed x hl
  have c2 : w.drew.cell? ⟨p, 24, none⟩ = some (Iv_N (m.st.length : Int)) := h.dep
  have f0 : w.drew.frozen? ⟨p, 8 + m.st.length, none⟩ = false := h.rs.free (8 + m.st.length)
  have c0 : w.drew.cell? ⟨p, 8 + m.st.length, none⟩ = some (Iv_N y) := c0
  have c1 : (w.setCell ⟨p, 8 + m.st.length, none⟩ (Iv_N x)).drew.cell? ⟨p, 24, none⟩ = some (Iv_N (m.st.length : Int)) := c1
  have f1 : (w.setCell ⟨p, 8 + m.st.length, none⟩ (Iv_N x)).drew.frozen? ⟨p, 24, none⟩ = false := f1
  have HM := Hid.mk (HM.keep (Kept.refl [] _).drew)
  have q1 : (m.st.length : Int) < 16 := by omega
  have q2 : (0 : Int) ≤ (m.st.length : Int) := by omega
  clear h
  generalize m.st.length = d at *
  go_enter Tryz.func145, Tryz.ntmps145
  go_wp2_with fail
  go_region
  go_wp2_with fail
  go_end0
  exact ⟨rfl, HM.out⟩
set_option maxHeartbeats 2000000 in
theorem pop30 (h : MSt B w p m k) (hl : m.st ≠ []) : Calls Tryz.prog 125 #[.pointer (some ⟨p, 0, none⟩)] w fun e w' => e = .returned (.int .i64 (m.st.getLastD 0)) ∧ MSt B w' p { m with st := m.st.dropLast } k ∧ Kept [p] w w' := by
  obtain ⟨stk, ev, sn, tm, h⟩ := h
  obtain ⟨n, hn, c1, c0, HM⟩ := h.popped hl
  have c2 := h.dep
  have f2 := h.rs.free 24
  have hle := h.le
  have HM := Hid.mk (HM.keep (Kept.refl [] _).drew)
  have S1 : (w.setCell ⟨p, 24, none⟩ (Iv_N (n : Int))).drew.cell? ⟨p, 24, none⟩ = some (Iv_N (n : Int)) := c1
  have S0 : (w.setCell ⟨p, 24, none⟩ (Iv_N (n : Int))).drew.cell? ⟨p, 8 + n, none⟩ = some (Iv_N (m.st.getLastD 0)) := c0
  rw [hn] at c2
  have q1 : (n : Int) < 16 := by omega
  have q2 : (0 : Int) ≤ (n : Int) := by omega
  have q3 : IntKind.i64.wrap (((n + 1 : Nat) : Int) - 1) = (n : Int) := by rw [show ((n + 1 : Nat) : Int) - 1 = (n : Int) by omega]; exact w64_small _ (by omega)
  clear h hle hn
  generalize m.st.getLastD 0 = x at *
  go_enter Tryz.func125, Tryz.ntmps125
  go_wp2_with fail
  go_region
  go_wp2_with fail
  go_ret
  exact ⟨rfl, HM.out, ((Kept.refl [p] w).setCell (p := ⟨p, 24, none⟩) (.inl (by simp)) _).drew⟩
end
end Go.Proofs.YtngnenbidpojeaaGreatDoor
/-
  The program's machine: a letter's argument, truth, store, send, remind, cancel.
-/
namespace Go.Proofs.YtngnenbidpojeaaGreatDoor
open Go.RowKit Go.Shelf
set_option maxRecDepth 100000
set_option linter.unusedVariables false
section
variable {w : World}
set_option maxHeartbeats 1000000 in
theorem clone49 (s : List UInt8) (hs : s.length ≤ 281474976710656) : Calls Tryz.prog 83 #[.string ⟨s.toArray⟩] w fun e w' => e = .returned (.string ⟨s.toArray⟩) ∧ Kept [] w w' := by
  have h : Calls Tryz.prog 120 #[.string ⟨s.toArray⟩] w fun e w' => e = .returned (.string ⟨s.toArray⟩) ∧ Below w.heap.size w w' := AnyPu.stringslite_Clone cloneS ⟨s.toArray⟩ w (by simpa [ByteArray.size] using hs)
  go_enter Tryz.func83, Tryz.ntmps83
  go_wp2_with (go_at_call 120; refine h.mono ?_; rintro e w1 ⟨rfl, hb⟩)
  go_ret
  exact ⟨rfl, ⟨hb.os, hb.tape, hb.output, hb.size, fun k hk _ => hb.block k hk⟩⟩
theorem truth43 (b : Bool) : Calls Tryz.prog 147 #[.bool b] w fun e w' => e = .returned (.int .i64 (if b = true then 1 else 0)) ∧ w = w' := by
  cases b
  · go_enter Tryz.func147, Tryz.ntmps147
    go_wp2_with fail
    go_ret
    exact ⟨rfl, rfl⟩
  · go_enter Tryz.func147, Tryz.ntmps147
    go_wp2_with fail
    go_ret
    exact ⟨rfl, rfl⟩
end
/-- The cell of an integer in a row of them. -/
theorem rowJ_at {w : World} {a : Option Addr} {n c : Nat} {C : List Int} (h : ReadsR 1 w (.slice a n c) (rowJ C)) {j : Nat} {x : Int} (hj : C[j]? = some x) : ∃ b o, a = some ⟨b, o, none⟩ ∧ w.cell? ⟨b, o + j, none⟩ = some (.int .i64 x) := by
  obtain ⟨b, o, c', e, hc⟩ := h.at j [.int .i64 x] (by simp [rowJ, hj])
  simp only [Value.slice.injEq] at e
  refine ⟨b, o, e.1, ?_⟩
  have := hc 0 _ rfl
  simpa using this
section
variable {B : Bs} {w w' : World} {p : Nat} {m : Mc} {k : Nat} {stk : List Int} {ev sn tm : Value}
theorem MS.fix (h : MS B w p m k stk ev sn tm) {i : Nat} {x : Value} (hi : B.fix[i]? = some x) : w.cell? ⟨p, i, none⟩ = some x :=
  h.rs.cell_pre (by unfold preM; rw [List.getElem?_append_left (List.getElem?_eq_some_iff.1 hi).1]; exact hi)
set_option maxHeartbeats 1000000 in
theorem argument42 (hB : B.Ok) (h : MSt B w p m k) (n : Nat) (hn : n ≤ 7) : Calls Tryz.prog 146 #[.pointer (some ⟨p, 0, none⟩), .int .i64 (n : Int)] w fun e w' => e = .returned (.int .i64 (B.l.args.getD n 0)) ∧ w = w' := by
  obtain ⟨stk, ev, sn, tm, h⟩ := h
  have hA := hB.args.keep h.rs.kept
  obtain ⟨a, c, hav, h1, h2⟩ := hA.form
  rw [rowJ_length] at hav h1
  have c5 : w.cell? ⟨p, 5, none⟩ = some (.slice a B.l.args.length c) := by rw [← hav]; exact h.fix rfl
  rw [hav] at hA
  clear hav h
  by_cases hlt : n < B.l.args.length
  · have hg : B.l.args[n]? = some (B.l.args.getD n 0) := by simp [List.getElem?_eq_getElem hlt]
    obtain ⟨b, o, rfl, hc⟩ := rowJ_at hA hg
    have q : ¬ (B.l.args.length : Int) ≤ (n : Int) := by omega
    have q0 : (0 : Int) ≤ (n : Int) := by omega
    have q1 : (n : Int) < (B.l.args.length : Int) := by omega
    clear hA hg
    generalize B.l.args.getD n 0 = x at *
    generalize B.l.args.length = nn at *
    go_enter Tryz.func146, Tryz.ntmps146
    go_wp2_with fail
    go_ret
    exact ⟨rfl, rfl⟩
  · have q : (B.l.args.length : Int) ≤ (n : Int) := by omega
    have e0 : B.l.args.getD n 0 = 0 := by simp [List.getElem?_eq_none (Nat.le_of_not_lt hlt)]
    rw [e0]
    clear hA e0
    generalize B.l.args.length = nn at *
    go_enter Tryz.func146, Tryz.ntmps146
    go_wp2_with fail
    go_ret
    exact ⟨rfl, rfl⟩
theorem rt33 : RowT 90 92 2 16 (.agg #[.int .i64 0, .int .i64 0]) := ⟨Tryz.underlying90, by kernel_rfl, rfl, by omega, by omega⟩
theorem rt34 : RowT 101 235 3 32 (.agg #[.string ⟨#[]⟩, .int .i64 0, .int .i64 0]) := ⟨Tryz.underlying101, by kernel_rfl, rfl, by omega, by omega⟩
theorem rt35 : RowT 37 194 5 48 (.agg #[.string ⟨#[]⟩, .bool false, .int .i64 0, .int .i64 0, .int .i64 0]) := ⟨Tryz.underlying37, by kernel_rfl, rfl, by omega, by omega⟩
set_option maxHeartbeats 2000000 in
theorem store44 (h : MSt B w p m k) (r : Nat) (hr : r ≤ 7) (x : Int) (hl : m.ev.length ≤ 900) : Calls Tryz.prog 148 #[.pointer (some ⟨p, 0, none⟩), .int .i64 (r : Int), .int .i64 x] w fun e w' => e = .returned (.tuple #[]) ∧ MSt B w' p { m with reg := m.reg.set r x, ev := m.ev ++ [⟨r, x⟩] } k := by
  obtain ⟨stk, ev, sn, tm, h⟩ := h
  have h1 := h.rs.put_reg tyM_ok (o := 25 + r) x (by rw [h.len]) (by omega)
  obtain ⟨y, hy⟩ : ∃ y, m.reg[r]? = some y := ⟨_, List.getElem?_eq_getElem (by rw [h.rs.r8]; omega)⟩
  have c0 : w.cell? ⟨p, 25 + r, none⟩ = some (Iv_N y) := h.rs.cell_res (by rw [h.len]) (cellsR_reg hy)
  have f0 := h.rs.free (25 + r)
  obtain ⟨a, c, rfl, -, -⟩ := h.rs.ev.form
  rw [rowE_length] at *
  obtain ⟨ad, c', w2, hrun, c2, f2, H2⟩ := h1.addEv rt33 tyM_ok (by omega) ⟨r, x⟩ 33 (by rw [h.len]) 92 (0, 0) 90
  have c1 := h1.cell_res (o := 33) (by rw [h.len]) (cellsR_ev h1.r8)
  rw [show (w.setCell ⟨p, 25 + r, none⟩ (Iv_N x)).heap.size = w.heap.size by simp] at hrun
  have HM : Hid (MSt B (w2.setCell ⟨p, 33, none⟩ (.slice ad (m.ev.length + 1) c')) p { m with reg := m.reg.set r x, ev := m.ev ++ [⟨r, x⟩] } k) := ⟨stk, _, sn, tm, h.s16, h.top, H2⟩
  have q0 : (0 : Int) ≤ (r : Int) := by omega
  have q1 : (r : Int) < 8 := by omega
  clear h h1 H2 hy
  generalize m.ev.length = n at *
  go_enter Tryz.func148, Tryz.ntmps148
  go_wp2_with (at_builtin; refine wpList_append_run 90 90 (.tmp 18) (.tmp 22) rfl (by rfl) _ _ rfl rfl _ _ hrun ?_)
  go_end0
  exact ⟨rfl, HM.out⟩
end
end Go.Proofs.YtngnenbidpojeaaGreatDoor
/-
  Letters that are formed: the program's test and the document's.
-/
namespace Go.Proofs.YtngnenbidpojeaaGreatDoor
open Go.RowKit
set_option maxRecDepth 100000
set_option linter.unusedVariables false
section
variable {w : World}
set_option maxHeartbeats 1000000 in
theorem lformed18 (l : Lt) (a : Option Addr) (c : Nat) (h1 : l.fr.length ≤ 9223372036854775807) (h2 : l.args.length ≤ 9223372036854775807) : Calls Tryz.prog 74 #[.agg #[.string ⟨l.fr.toArray⟩, .int .u64 (l.ser : Int), .int .i64 l.kind, .slice a l.args.length c]] w fun e w' => e = .returned (.bool l.formed) ∧ Kept [] w w' := by
  obtain ⟨W0, e0, k0, -, hb⟩ := box1 w (.cells #[.string ⟨l.fr.toArray⟩, .int .u64 (l.ser : Int), .int .i64 l.kind, .slice a l.args.length c] 81)
  obtain ⟨y0, y1, y2, y3⟩ := cells4 hb
  have HK := Hid.mk k0
  have e : l.formed = (decide ((l.fr.length : Int) ≤ 40) && decide ((l.args.length : Int) ≤ 4)) := by
    unfold Lt.formed
    rw [Bool.eq_iff_iff]
    simp
    omega
  rw [e]
  clear e hb k0
  by_cases h3 : (l.fr.length : Int) ≤ 40
  · rw [decide_eq_true h3, Bool.true_and]
    go_enter Tryz.func74, Tryz.ntmps74
    go_wp2_with fail
    all_goals go_ret
    all_goals exact ⟨rfl, HK.out⟩
  · rw [decide_eq_false h3, Bool.false_and]
    go_enter Tryz.func74, Tryz.ntmps74
    go_wp2_with fail
    all_goals go_ret
    all_goals exact ⟨rfl, HK.out⟩
end
end Go.Proofs.YtngnenbidpojeaaGreatDoor
/-
  The program's machine: send, remind, cancel.
-/
namespace Go.Proofs.YtngnenbidpojeaaGreatDoor
open Go.RowKit
set_option maxRecDepth 100000
set_option linter.unusedVariables false
section
variable {B : Bs} {w w' : World} {p : Nat} {m : Mc} {k : Nat} {stk : List Int} {ev sn tm : Value}
theorem MS.c_sn (h : MS B w p m k stk ev sn tm) : w.cell? ⟨p, 34, none⟩ = some sn := h.rs.cell_res (by rw [h.len]) (cellsR_sn h.rs.r8)
theorem MS.c_tm (h : MS B w p m k stk ev sn tm) : w.cell? ⟨p, 35, none⟩ = some tm := h.rs.cell_res (by rw [h.len]) (cellsR_tm h.rs.r8)
/-- A letter more. -/
theorem MS.addSn (h : MS B w p m k stk ev sn tm) (hl : m.sent.length ≤ 900) (x : Sn) : ∃ ad c w2, (Builtin.append_ #[101, 101] 101 #[sn, .slice (some ⟨w.heap.size, 0, none⟩) 1 1]).run Tryz.prog (w.alloc (.cells #[.string ⟨x.to.toArray⟩, .int .i64 x.kind, .int .i64 x.arg] 235)) = .ok (.slice ad (m.sent.length + 1) c) w2 ∧ w2.cell? ⟨p, 34, none⟩ = some sn ∧ w2.frozen? ⟨p, 34, none⟩ = false ∧ MSt B (w2.setCell ⟨p, 34, none⟩ (.slice ad (m.sent.length + 1) c)) p { m with sent := m.sent ++ [x] } k := by
  obtain ⟨ad, c', w2, hrun, c2, f2, H2⟩ := h.rs.addSn rt34 tyM_ok (by omega) x 34 (by rw [h.len]) 235 (0, 0) 101
  exact ⟨ad, c', w2, hrun, c2, f2, stk, _, _, _, h.s16, h.top, H2⟩
/-- A reminder more. -/
theorem MS.addTm (h : MS B w p m k stk ev sn tm) (hl : m.tm.length ≤ 900) (x : Tm) : ∃ ad c w2, (Builtin.append_ #[37, 37] 37 #[tm, .slice (some ⟨w.heap.size, 0, none⟩) 1 1]).run Tryz.prog (w.alloc (.cells #[.string ⟨x.nm.toArray⟩, .bool x.can, .int .i64 x.due, .int .i64 x.per, .int .i64 x.kind] 194)) = .ok (.slice ad (m.tm.length + 1) c) w2 ∧ w2.cell? ⟨p, 35, none⟩ = some tm ∧ w2.frozen? ⟨p, 35, none⟩ = false ∧ MSt B (w2.setCell ⟨p, 35, none⟩ (.slice ad (m.tm.length + 1) c)) p { m with tm := m.tm ++ [x] } k := by
  obtain ⟨ad, c', w2, hrun, c2, f2, H2⟩ := h.rs.addTm rt35 tyM_ok (by omega) x 35 (by rw [h.len]) 194 (0, 0) 37
  exact ⟨ad, c', w2, hrun, c2, f2, stk, _, _, _, h.s16, h.top, H2⟩
set_option maxHeartbeats 4000000 in
theorem send45 (h : MSt B w p m k) (to : List UInt8) (kd x : Int) (hs : to.length ≤ 281474976710656) (h4 : m.sent.length ≤ 4) : Calls Tryz.prog 149 #[.pointer (some ⟨p, 0, none⟩), .string ⟨to.toArray⟩, .int .i64 kd, .int .i64 x] w fun e w' => (m.sent.length = 4 ∧ e = .returned (.int .i64 12) ∧ MSt B w' p m k) ∨ (m.sent.length < 4 ∧ e = .returned (.int .i64 0) ∧ MSt B w' p { m with sent := m.sent ++ [⟨to, kd, x⟩] } k) := by
  obtain ⟨stk, ev, sn, tm, h⟩ := h
  obtain ⟨a, c, rfl, -, -⟩ := h.rs.sn.form
  rw [rowS_length] at *
  have c0 := h.c_sn
  by_cases hq : m.sent.length = 4
  · have HM : Hid (MSt B w p m k) := ⟨_, _, _, _, h⟩
    have HQ := Hid.mk hq
    rw [hq] at c0
    clear h hq h4
    go_enter Tryz.func149, Tryz.ntmps149
    go_wp2_with fail
    go_ret
    exact .inl ⟨HQ.out, rfl, HM.out⟩
  · have HM := Hid.mk h
    have HQ : Hid (m.sent.length < 4) := by have := hq; show m.sent.length < 4; omega
    have hq' : ((m.sent.length : Int) == 4) = false := by simp only [beq_eq_false_iff_ne, ne_eq]; omega
    have hq2 : ¬ (m.sent.length : Int) = 4 := by omega
    have S0 : w.drew.cell? ⟨p, 34, none⟩ = some (.slice a m.sent.length c) := c0
    have HC : Hid (Calls Tryz.prog 83 #[.string ⟨to.toArray⟩] w.drew fun e w' => e = .returned (.string ⟨to.toArray⟩) ∧ Kept [] w.drew w') := clone49 to hs
    clear h hq h4
    go_enter Tryz.func149, Tryz.ntmps149
    go_wp2_with fail
    go_region_law (first | (refine step_append_run 101 (.tmp 21) (.tmp 27) (by rfl) (by rfl) _ _ (by rfl) (by rfl) hrun ?_) | (go_simp; go_at_call 83; refine Calls.mono HC.out ?_; rintro e w5 ⟨rfl, k5⟩; have h5 := HM.out.keep ((Kept.refl [] w).drew.then k5); obtain ⟨a6, c6, w6, hrun, q3, qf, s6⟩ := h5.addSn (by have := HQ.out; omega) ⟨to, kd, x⟩; have S6 := Hid.mk s6; clear s6; have q5 := h5.c_sn; have q6 := ((Kept.refl [] w5).alloc (.cells #[.string ⟨to.toArray⟩, .int .i64 kd, .int .i64 x] 235)).cell_eq q5; clear h5))
    all_goals
      clear q3 qf q5 q6 hrun
      go_wp2_with fail
      go_ret
      exact .inr ⟨HQ.out, rfl, S6.out⟩
end
end Go.Proofs.YtngnenbidpojeaaGreatDoor
/-
  The program's machine: remind, cancel.
-/
namespace Go.Proofs.YtngnenbidpojeaaGreatDoor
open Go.RowKit
set_option maxRecDepth 100000
set_option linter.unusedVariables false
/-- A reminder that may not be. -/
def BadT (now x y : Int) : Prop := x < 0 ∨ 9223372036854775807 < now + x ∨ y < 1
section
variable {B : Bs} {w w' : World} {p : Nat} {m : Mc} {k : Nat} {stk : List Int} {ev sn tm : Value}
set_option maxHeartbeats 4000000 in
theorem remind46_bad (h : MSt B w p m k) (nm : List UInt8) (x y : Int) (hn : 0 ≤ B.now ∧ B.now ≤ 9223372036854775807) (hb : BadT B.now x y) : Calls Tryz.prog 150 #[.pointer (some ⟨p, 0, none⟩), .string ⟨nm.toArray⟩, .int .i64 x, .int .i64 y] w fun e w' => e = .returned (.int .i64 12) ∧ MSt B w' p m k := by
  obtain ⟨stk, ev, sn, tm, h⟩ := h
  have c0 : w.cell? ⟨p, 6, none⟩ = some (.int .i64 B.now) := h.fix rfl
  have HM : Hid (MSt B w p m k) := ⟨_, _, _, _, h⟩
  have e0 : IntKind.i64.wrap (9223372036854775807 - B.now) = 9223372036854775807 - B.now := w64_small _ (by omega)
  have e1 : (9223372036854775807 - B.now < x) ↔ 9223372036854775807 < B.now + x := by omega
  have HB : Hid (x < 0 ∨ 9223372036854775807 - B.now < x ∨ y < 1) := by
    rcases hb with h | h | h
    · exact .inl h
    · exact .inr (.inl (e1.2 h))
    · exact .inr (.inr h)
  clear h hb e1 hn
  generalize B.now = now at *
  by_cases h1 : x < 0
  · go_enter Tryz.func150, Tryz.ntmps150
    go_wp2_with fail
    go_ret
    exact ⟨rfl, HM.out⟩
  · by_cases h2 : 9223372036854775807 - now < x
    · go_enter Tryz.func150, Tryz.ntmps150
      go_wp2_with fail
      go_ret
      exact ⟨rfl, HM.out⟩
    · have h3 : y < 1 := by
        rcases HB.out with h | h | h
        · exact absurd h h1
        · exact absurd h h2
        · exact h
      clear HB
      go_enter Tryz.func150, Tryz.ntmps150
      go_wp2_with fail
      go_ret
      exact ⟨rfl, HM.out⟩
set_option maxHeartbeats 4000000 in
theorem remind46 (h : MSt B w p m k) (nm : List UInt8) (x y : Int) (hs : nm.length ≤ 281474976710656) (hl : m.tm.length ≤ 900) (hn : 0 ≤ B.now ∧ B.now ≤ 9223372036854775807) (hb : ¬ BadT B.now x y) : Calls Tryz.prog 150 #[.pointer (some ⟨p, 0, none⟩), .string ⟨nm.toArray⟩, .int .i64 x, .int .i64 y] w fun e w' => e = .returned (.int .i64 0) ∧ MSt B w' p { m with tm := m.tm ++ [⟨nm, false, B.now + x, y, B.l.kind⟩] } k := by
  obtain ⟨stk, ev, sn, tm, h⟩ := h
  obtain ⟨a, c, rfl, -, -⟩ := h.rs.tm.form
  rw [rowT_length] at *
  have hx0 : ¬ x < 0 := fun h => hb (.inl h)
  have hx1 : ¬ 9223372036854775807 < B.now + x := fun h => hb (.inr (.inl h))
  have hy1 : ¬ y < 1 := fun h => hb (.inr (.inr h))
  have c0 : w.cell? ⟨p, 6, none⟩ = some (.int .i64 B.now) := h.fix rfl
  have e0 : IntKind.i64.wrap (9223372036854775807 - B.now) = 9223372036854775807 - B.now := w64_small _ (by omega)
  have e1 : IntKind.i64.wrap (B.now + x) = B.now + x := w64_small _ (by omega)
  have hx2 : ¬ 9223372036854775807 - B.now < x := by omega
  have HM := Hid.mk h
  have HL := Hid.mk hl
  have S0 : w.drew.cell? ⟨p, 35, none⟩ = some (.slice a m.tm.length c) := h.c_tm
  have S1 : w.drew.cell? ⟨p, 6, none⟩ = some (.int .i64 B.now) := c0
  have S2 : w.drew.cell? ⟨p, 4, none⟩ = some (.int .i64 B.l.kind) := h.fix rfl
  have HC : Hid (Calls Tryz.prog 83 #[.string ⟨nm.toArray⟩] w.drew fun e w' => e = .returned (.string ⟨nm.toArray⟩) ∧ Kept [] w.drew w') := clone49 nm hs
  clear h hb hl hx1 hn
  go_enter Tryz.func150, Tryz.ntmps150
  go_wp2_with fail
  go_region_law (first | (refine step_append_run 37 (.tmp 29) (.tmp 45) (by rfl) (by rfl) _ _ (by rfl) (by rfl) hrun ?_) | (go_simp; go_at_call 83; refine Calls.mono HC.out ?_; rintro e w5 ⟨rfl, k5⟩; have h5 := HM.out.keep ((Kept.refl [] w).drew.then k5); obtain ⟨a6, c6, w6, hrun, q3, qf, s6⟩ := h5.addTm HL.out ⟨nm, false, B.now + x, y, B.l.kind⟩; have S6 := Hid.mk s6; clear s6; have q5 := h5.c_tm; have q7 : w5.cell? ⟨p, 6, none⟩ = some (.int .i64 B.now) := h5.fix rfl; have q8 : w5.cell? ⟨p, 4, none⟩ = some (.int .i64 B.l.kind) := h5.fix rfl; have q6 := ((Kept.refl [] w5).alloc (.cells #[.string ⟨nm.toArray⟩, .bool false, .int .i64 (B.now + x), .int .i64 y, .int .i64 B.l.kind] 194)).cell_eq q5; clear h5))
  all_goals
    clear q3 qf q5 q6 hrun
    go_wp2_with fail
    go_ret
    exact ⟨rfl, S6.out⟩
set_option maxHeartbeats 4000000 in
theorem cancel47 (h : MSt B w p m k) (nm : List UInt8) (hs : nm.length ≤ 281474976710656) (hl : m.tm.length ≤ 900) : Calls Tryz.prog 151 #[.pointer (some ⟨p, 0, none⟩), .string ⟨nm.toArray⟩] w fun e w' => e = .returned (.tuple #[]) ∧ MSt B w' p { m with tm := m.tm ++ [⟨nm, true, 0, 0, 0⟩] } k := by
  obtain ⟨stk, ev, sn, tm, h⟩ := h
  obtain ⟨a, c, rfl, -, -⟩ := h.rs.tm.form
  rw [rowT_length] at *
  have HM := Hid.mk h
  have HL := Hid.mk hl
  have S0 : w.drew.cell? ⟨p, 35, none⟩ = some (.slice a m.tm.length c) := h.c_tm
  have HC : Hid (Calls Tryz.prog 83 #[.string ⟨nm.toArray⟩] w.drew fun e w' => e = .returned (.string ⟨nm.toArray⟩) ∧ Kept [] w.drew w') := clone49 nm hs
  clear h hl
  go_enter Tryz.func151, Tryz.ntmps151
  go_wp2_with fail
  go_region_law (first | (refine step_append_run 37 (.tmp 9) (.tmp 13) (by rfl) (by rfl) _ _ (by rfl) (by rfl) hrun ?_) | (go_simp; go_at_call 83; refine Calls.mono HC.out ?_; rintro e w5 ⟨rfl, k5⟩; have h5 := HM.out.keep ((Kept.refl [] w).drew.then k5); obtain ⟨a6, c6, w6, hrun, q3, qf, s6⟩ := h5.addTm HL.out ⟨nm, true, 0, 0, 0⟩; have S6 := Hid.mk s6; clear s6; have q5 := h5.c_tm; have q6 := ((Kept.refl [] w5).alloc (.cells #[.string ⟨nm.toArray⟩, .bool true, .int .i64 0, .int .i64 0, .int .i64 0] 194)).cell_eq q5; clear h5))
  all_goals
    clear q3 qf q5 q6 hrun
    go_wp2_with fail
    go_end0
    exact ⟨rfl, S6.out⟩
end
end Go.Proofs.YtngnenbidpojeaaGreatDoor
