import Derived.Shelf.Pu.Clone
import Derived.Ground.MpProg
import Derived.Lib.Bytealg
import Derived.Test.YtpodoiichpnpjaaDoorQ09
import Derived.Test.YtpodoiichpnpjaaDoorQ10
/-
  The program's machine in memory; push, pop, a letter's argument.
-/
namespace Go.Proofs.YtpodoiichpnpjaaDoor
open Go.RowKit
set_option maxRecDepth 100000
set_option linter.unusedVariables false
/-- What a run stands on: a program, a letter and a tick, and where their rows lie; w0: the world ahead of it. -/
structure Bs where
  w0 : World
  nv : Value
  cv : Value
  av : Value
  pg : Pg
  l : Lt
  now : Int
def Bs.fix (B : Bs) : List Value := [B.nv, B.cv, .string ⟨B.l.fr.toArray⟩, .int .u64 (B.l.ser : Int), .int .i64 B.l.kind, B.av, .int .i64 B.now]
structure Bs.Ok (B : Bs) : Prop where
  prog : IsP B.w0 B.nv B.cv B.pg
  args : ReadsR 1 B.w0 B.av (rowJ B.l.args)
def tyM : Ty := ⟨73, 56, 65, 58⟩
theorem tyM_ok : tyM.Ok := by unfold Ty.Ok tyM; decide
def preM (B : Bs) (pl : Int) (stk : List Int) (d : Int) : List Value := B.fix ++ (.int .i64 pl :: (BI stk ++ [.int .i64 d]))
section
variable {B : Bs} {pl d : Int} {stk : List Int}
theorem preM_length (hs : stk.length = 16) : (preM B pl stk d).length = 25 := by simp [preM, Bs.fix, BI_length, hs]
theorem preM_stk (hs : stk.length = 16) {i : Nat} {x : Int} (hi : stk[i]? = some x) : (preM B pl stk d)[8 + i]? = some (Iv x) := by
  have hl : i < (BI stk).length := by rw [BI_length]; exact (List.getElem?_eq_some_iff.1 hi).1
  unfold preM
  rw [List.getElem?_append_right (by simp [Bs.fix]; omega), show 8 + i - B.fix.length = i + 1 by simp [Bs.fix]; omega, List.getElem?_cons_succ, List.getElem?_append_left hl]
  exact BI_get hi
theorem preM_dep (hs : stk.length = 16) : (preM B pl stk d)[24]? = some (Iv d) := by
  unfold preM
  rw [List.getElem?_append_right (by simp [Bs.fix]), show 24 - B.fix.length = 16 + 1 by simp [Bs.fix], List.getElem?_cons_succ, List.getElem?_append_right (by rw [BI_length]; omega), BI_length, hs]
  rfl
theorem preM_set_stk (hs : stk.length = 16) {i : Nat} (hi : i < 16) (x : Int) : (preM B pl stk d).set (8 + i) (Iv x) = preM B pl (stk.set i x) d := by
  unfold preM
  rw [List.set_append_right _ _ (by simp [Bs.fix]; omega), show 8 + i - B.fix.length = i + 1 by simp [Bs.fix]; omega, List.set_cons_succ, List.set_append_left _ _ (by rw [BI_length]; omega), BI_set]
theorem preM_set_dep (hs : stk.length = 16) (q : Int) : (preM B pl stk d).set 24 (Iv q) = preM B pl stk q := by
  unfold preM
  rw [List.set_append_right _ _ (by simp [Bs.fix]), show 24 - B.fix.length = 16 + 1 by simp [Bs.fix], List.set_cons_succ, List.set_append_right _ _ (by rw [BI_length]; omega), BI_length, hs]
  rfl
end
/-- The machine at block p. -/
structure MS (B : Bs) (w : World) (p : Nat) (m : Mc) (k : Nat) (stk : List Int) (ev sn tm : Value) : Prop where
  s16 : stk.length = 16
  top : stk.take m.st.length = m.st
  rs : RS tyM B.w0 w p (preM B (m.at_ : Int) stk (m.st.length : Int)) m.reg m.ev m.sent m.tm k ev sn tm
def MSt (B : Bs) (w : World) (p : Nat) (m : Mc) (k : Nat) : Prop := ∃ stk ev sn tm, MS B w p m k stk ev sn tm
section
variable {B : Bs} {w w' : World} {p : Nat} {m : Mc} {k : Nat} {stk : List Int} {ev sn tm : Value}
theorem MS.le (h : MS B w p m k stk ev sn tm) : m.st.length ≤ 16 := by
  have := congrArg List.length h.top
  rw [List.length_take, h.s16] at this
  omega
theorem MS.keep (h : MS B w p m k stk ev sn tm) (kk : Kept [] w w') : MS B w' p m k stk ev sn tm := ⟨h.s16, h.top, h.rs.keep kk⟩
theorem MSt.keep (h : MSt B w p m k) (kk : Kept [] w w') : MSt B w' p m k := by
  obtain ⟨stk, ev, sn, tm, h⟩ := h
  exact ⟨stk, ev, sn, tm, h.keep kk⟩
theorem MSt.kept (h : MSt B w p m k) : Kept [] B.w0 w := by
  obtain ⟨stk, ev, sn, tm, h⟩ := h
  exact h.rs.kept
theorem MSt.le (h : MSt B w p m k) : m.st.length ≤ 16 := by
  obtain ⟨stk, ev, sn, tm, h⟩ := h
  exact h.le
theorem MSt.r8 (h : MSt B w p m k) : m.reg.length = 8 := by
  obtain ⟨stk, ev, sn, tm, h⟩ := h
  exact h.rs.r8
theorem MS.dep (h : MS B w p m k stk ev sn tm) : w.cell? ⟨p, 24, none⟩ = some (Iv (m.st.length : Int)) := h.rs.cell_pre (preM_dep h.s16)
theorem MS.len (h : MS B w p m k stk ev sn tm) : (preM B (m.at_ : Int) stk (m.st.length : Int)).length = 25 := preM_length h.s16
/-- An integer is laid on the stack. -/
theorem MS.pushed (h : MS B w p m k stk ev sn tm) (x : Int) (hl : m.st.length < 16) : (∃ y, w.cell? ⟨p, 8 + m.st.length, none⟩ = some (Iv y)) ∧ (w.setCell ⟨p, 8 + m.st.length, none⟩ (Iv x)).cell? ⟨p, 24, none⟩ = some (Iv (m.st.length : Int)) ∧ (w.setCell ⟨p, 8 + m.st.length, none⟩ (Iv x)).frozen? ⟨p, 24, none⟩ = false ∧ MSt B ((w.setCell ⟨p, 8 + m.st.length, none⟩ (Iv x)).setCell ⟨p, 24, none⟩ (Iv ((m.st.length : Int) + 1))) p { m with st := m.st ++ [x] } k := by
  obtain ⟨y, hy⟩ : ∃ y, stk[m.st.length]? = some y := ⟨_, List.getElem?_eq_getElem (by rw [h.s16]; exact hl)⟩
  have h1 : RS tyM B.w0 (w.setCell ⟨p, 8 + m.st.length, none⟩ (Iv x)) p (preM B (m.at_ : Int) (stk.set m.st.length x) (m.st.length : Int)) m.reg m.ev m.sent m.tm k ev sn tm := h.rs.put_pre tyM_ok (Iv x) (by rw [h.len]; omega) (preM_set_stk h.s16 hl x)
  have s' : (stk.set m.st.length x).length = 16 := by rw [List.length_set]; exact h.s16
  refine ⟨⟨y, h.rs.cell_pre (preM_stk h.s16 hy)⟩, h1.cell_pre (preM_dep s'), h1.free _, stk.set m.st.length x, ev, sn, tm, s', ?_, ?_⟩
  · show (stk.set m.st.length x).take (m.st ++ [x]).length = m.st ++ [x]
    rw [List.length_append, List.length_singleton, List.take_add_one, List.getElem?_set_self (by rw [h.s16]; exact hl), List.take_set_of_le (Nat.le_refl _), h.top]
    rfl
  · have := h1.put_pre tyM_ok (Iv ((m.st.length : Int) + 1)) (o := 24) (by rw [preM_length s']; omega) (preM_set_dep s' _)
    show RS tyM B.w0 _ p (preM B (m.at_ : Int) (stk.set m.st.length x) ((m.st ++ [x]).length : Int)) m.reg m.ev m.sent m.tm k ev sn tm
    rw [List.length_append, List.length_singleton]
    exact this
/-- The top is taken. -/
theorem MS.popped (h : MS B w p m k stk ev sn tm) (hl : m.st ≠ []) : ∃ n, m.st.length = n + 1 ∧ (w.setCell ⟨p, 24, none⟩ (Iv (n : Int))).cell? ⟨p, 24, none⟩ = some (Iv (n : Int)) ∧ (w.setCell ⟨p, 24, none⟩ (Iv (n : Int))).cell? ⟨p, 8 + n, none⟩ = some (Iv (m.st.getLastD 0)) ∧ MSt B (w.setCell ⟨p, 24, none⟩ (Iv (n : Int))) p { m with st := m.st.dropLast } k := by
  obtain ⟨n, hn⟩ : ∃ n, m.st.length = n + 1 := ⟨m.st.length - 1, by have := List.length_pos_iff.2 hl; omega⟩
  have h1 : RS tyM B.w0 (w.setCell ⟨p, 24, none⟩ (Iv (n : Int))) p (preM B (m.at_ : Int) stk (n : Int)) m.reg m.ev m.sent m.tm k ev sn tm := h.rs.put_pre tyM_ok (Iv (n : Int)) (o := 24) (by rw [h.len]; omega) (preM_set_dep h.s16 _)
  have hle := h.le
  have hg : stk[n]? = some (m.st.getLastD 0) := by
    obtain ⟨v, hv⟩ : ∃ v, m.st.getLast? = some v := ⟨_, List.getLast?_eq_some_getLast hl⟩
    have e0 : m.st.getLastD 0 = v := by rw [List.getLastD_eq_getLast?, hv]; rfl
    rw [List.getLast?_eq_getElem?, hn, Nat.add_sub_cancel, ← h.top, List.getElem?_take, hn, if_pos (Nat.lt_succ_self n)] at hv
    rw [e0, hv]
  refine ⟨n, hn, h1.cell_pre (preM_dep h.s16), h1.cell_pre (preM_stk h.s16 hg), stk, ev, sn, tm, h.s16, ?_, ?_⟩
  · show stk.take m.st.dropLast.length = m.st.dropLast
    rw [List.length_dropLast, hn, Nat.add_sub_cancel, List.dropLast_eq_take, hn, Nat.add_sub_cancel, ← h.top, hn, List.take_take, Nat.min_eq_left (Nat.le_succ n)]
  · show RS tyM B.w0 _ p (preM B (m.at_ : Int) stk (m.st.dropLast.length : Int)) m.reg m.ev m.sent m.tm k ev sn tm
    rw [List.length_dropLast, hn, Nat.add_sub_cancel]
    exact h1
set_option maxHeartbeats 2000000 in
theorem push41 (h : MSt B w p m k) (x : Int) (hl : m.st.length < 16) : Calls Tryd.prog 41 #[.pointer (some ⟨p, 0, none⟩), .int .i64 x] w fun e w' => e = .returned (.tuple #[]) ∧ MSt B w' p { m with st := m.st ++ [x] } k := by
  obtain ⟨stk, ev, sn, tm, h⟩ := h
  obtain ⟨⟨y, c0⟩, c1, f1, HM⟩ := h.pushed x hl
  have c2 : w.drew.cell? ⟨p, 24, none⟩ = some (Iv (m.st.length : Int)) := h.dep
  have f0 : w.drew.frozen? ⟨p, 8 + m.st.length, none⟩ = false := h.rs.free (8 + m.st.length)
  have c0 : w.drew.cell? ⟨p, 8 + m.st.length, none⟩ = some (Iv y) := c0
  have c1 : (w.setCell ⟨p, 8 + m.st.length, none⟩ (Iv x)).drew.cell? ⟨p, 24, none⟩ = some (Iv (m.st.length : Int)) := c1
  have f1 : (w.setCell ⟨p, 8 + m.st.length, none⟩ (Iv x)).drew.frozen? ⟨p, 24, none⟩ = false := f1
  have HM := Hid.mk (HM.keep (Kept.refl [] _).drew)
  have q1 : (m.st.length : Int) < 16 := by omega
  have q2 : (0 : Int) ≤ (m.st.length : Int) := by omega
  clear h
  generalize m.st.length = d at *
  go_enter Tryd.func41, Tryd.ntmps41
  go_wp2_with fail
  go_region
  go_wp2_with fail
  go_end0
  exact ⟨rfl, HM.out⟩
set_option maxHeartbeats 2000000 in
theorem pop30 (h : MSt B w p m k) (hl : m.st ≠ []) : Calls Tryd.prog 30 #[.pointer (some ⟨p, 0, none⟩)] w fun e w' => e = .returned (.int .i64 (m.st.getLastD 0)) ∧ MSt B w' p { m with st := m.st.dropLast } k ∧ Kept [p] w w' := by
  obtain ⟨stk, ev, sn, tm, h⟩ := h
  obtain ⟨n, hn, c1, c0, HM⟩ := h.popped hl
  have c2 := h.dep
  have f2 := h.rs.free 24
  have hle := h.le
  have HM := Hid.mk (HM.keep (Kept.refl [] _).drew)
  have S1 : (w.setCell ⟨p, 24, none⟩ (Iv (n : Int))).drew.cell? ⟨p, 24, none⟩ = some (Iv (n : Int)) := c1
  have S0 : (w.setCell ⟨p, 24, none⟩ (Iv (n : Int))).drew.cell? ⟨p, 8 + n, none⟩ = some (Iv (m.st.getLastD 0)) := c0
  rw [hn] at c2
  have q1 : (n : Int) < 16 := by omega
  have q2 : (0 : Int) ≤ (n : Int) := by omega
  have q3 : IntKind.i64.wrap (((n + 1 : Nat) : Int) - 1) = (n : Int) := by rw [show ((n + 1 : Nat) : Int) - 1 = (n : Int) by omega]; exact w64_small _ (by omega)
  clear h hle hn
  generalize m.st.getLastD 0 = x at *
  go_enter Tryd.func30, Tryd.ntmps30
  go_wp2_with fail
  go_region
  go_wp2_with fail
  go_ret
  exact ⟨rfl, HM.out, ((Kept.refl [p] w).setCell (p := ⟨p, 24, none⟩) (.inl (by simp)) _).drew⟩
end
end Go.Proofs.YtpodoiichpnpjaaDoor
/-
  The program's machine: a letter's argument, truth, store, send, remind, cancel.
-/
namespace Go.Proofs.YtpodoiichpnpjaaDoor
open Go.RowKit Go.Shelf
set_option maxRecDepth 100000
set_option linter.unusedVariables false
def cloneS_ren : Go.Shelf.Ren := ⟨fun | 25 => 50 | n => n, fun | 9 => 9 | 3 => 3 | 4 => 4 | 37 => 111 | 0 => 0 | 47 => 112 | 5 => 5 | n => n, fun | n => n⟩
theorem cloneS : Go.Proofs.LaysPu.n25 Tryd.prog cloneS_ren := {
  mixed := by kernel_rfl
  f25 := Tryd.func50.trans (congrArg some (by kernel_rfl))
  t0 := Tryd.underlying0
  a0 := Tryd.isAgg0
  z0 := Tryd.sizeOf0
  v0 := Tryd.zeroValue0
  i0 := by kernel_rfl
  t3 := Tryd.underlying3
  a3 := Tryd.isAgg3
  z3 := Tryd.sizeOf3
  v3 := Tryd.zeroValue3
  i3 := by kernel_rfl
  t4 := Tryd.underlying4
  a4 := Tryd.isAgg4
  z4 := Tryd.sizeOf4
  v4 := Tryd.zeroValue4
  i4 := by kernel_rfl
  t5 := Tryd.underlying5
  a5 := Tryd.isAgg5
  z5 := Tryd.sizeOf5
  v5 := Tryd.zeroValue5
  i5 := by kernel_rfl
  t9 := Tryd.underlying9
  a9 := Tryd.isAgg9
  z9 := Tryd.sizeOf9
  v9 := Tryd.zeroValue9
  i9 := by kernel_rfl
  t37 := Tryd.underlying111
  a37 := Tryd.isAgg111
  z37 := Tryd.sizeOf111
  v37 := Tryd.zeroValue111
  i37 := by kernel_rfl
  t47 := Tryd.underlying112
  a47 := Tryd.isAgg112
  z47 := Tryd.sizeOf112
  v47 := Tryd.zeroValue112
  i47 := by kernel_rfl }
section
variable {w : World}
set_option maxHeartbeats 1000000 in
theorem clone49 (s : List UInt8) (hs : s.length ≤ 281474976710656) : Calls Tryd.prog 49 #[.string ⟨s.toArray⟩] w fun e w' => e = .returned (.string ⟨s.toArray⟩) ∧ Kept [] w w' := by
  have h : Calls Tryd.prog 50 #[.string ⟨s.toArray⟩] w fun e w' => e = .returned (.string ⟨s.toArray⟩) ∧ Below w.heap.size w w' := AnyPu.stringslite_Clone cloneS ⟨s.toArray⟩ w (by simpa [ByteArray.size] using hs)
  go_enter Tryd.func49, Tryd.ntmps49
  go_wp2_with (go_at_call 50; refine h.mono ?_; rintro e w1 ⟨rfl, hb⟩)
  go_ret
  exact ⟨rfl, ⟨hb.os, hb.tape, hb.output, hb.size, fun k hk _ => hb.block k hk⟩⟩
theorem truth43 (b : Bool) : Calls Tryd.prog 43 #[.bool b] w fun e w' => e = .returned (.int .i64 (if b = true then 1 else 0)) ∧ w = w' := by
  cases b
  · go_enter Tryd.func43, Tryd.ntmps43
    go_wp2_with fail
    go_ret
    exact ⟨rfl, rfl⟩
  · go_enter Tryd.func43, Tryd.ntmps43
    go_wp2_with fail
    go_ret
    exact ⟨rfl, rfl⟩
end
/-- The cell of an integer in a row of them. -/
theorem rowJ_at {w : World} {a : Option Addr} {n c : Nat} {C : List Int} (h : ReadsR 1 w (.slice a n c) (rowJ C)) {j : Nat} {x : Int} (hj : C[j]? = some x) : ∃ b o, a = some ⟨b, o, none⟩ ∧ w.cell? ⟨b, o + j, none⟩ = some (.int .i64 x) := by
  obtain ⟨b, o, c', e, hc⟩ := h.at j [.int .i64 x] (by simp [rowJ, hj])
  simp only [Value.slice.injEq] at e
  refine ⟨b, o, e.1, ?_⟩
  have := hc 0 _ rfl
  simpa using this
section
variable {B : Bs} {w w' : World} {p : Nat} {m : Mc} {k : Nat} {stk : List Int} {ev sn tm : Value}
theorem MS.fix (h : MS B w p m k stk ev sn tm) {i : Nat} {x : Value} (hi : B.fix[i]? = some x) : w.cell? ⟨p, i, none⟩ = some x :=
  h.rs.cell_pre (by unfold preM; rw [List.getElem?_append_left (List.getElem?_eq_some_iff.1 hi).1]; exact hi)
set_option maxHeartbeats 1000000 in
theorem argument42 (hB : B.Ok) (h : MSt B w p m k) (n : Nat) (hn : n ≤ 7) : Calls Tryd.prog 42 #[.pointer (some ⟨p, 0, none⟩), .int .i64 (n : Int)] w fun e w' => e = .returned (.int .i64 (B.l.args.getD n 0)) ∧ w = w' := by
  obtain ⟨stk, ev, sn, tm, h⟩ := h
  have hA := hB.args.keep h.rs.kept
  obtain ⟨a, c, hav, h1, h2⟩ := hA.form
  rw [rowJ_length] at hav h1
  have c5 : w.cell? ⟨p, 5, none⟩ = some (.slice a B.l.args.length c) := by rw [← hav]; exact h.fix rfl
  rw [hav] at hA
  clear hav h
  by_cases hlt : n < B.l.args.length
  · have hg : B.l.args[n]? = some (B.l.args.getD n 0) := by simp [List.getElem?_eq_getElem hlt]
    obtain ⟨b, o, rfl, hc⟩ := rowJ_at hA hg
    have q : ¬ (B.l.args.length : Int) ≤ (n : Int) := by omega
    have q0 : (0 : Int) ≤ (n : Int) := by omega
    have q1 : (n : Int) < (B.l.args.length : Int) := by omega
    clear hA hg
    generalize B.l.args.getD n 0 = x at *
    generalize B.l.args.length = nn at *
    go_enter Tryd.func42, Tryd.ntmps42
    go_wp2_with fail
    go_ret
    exact ⟨rfl, rfl⟩
  · have q : (B.l.args.length : Int) ≤ (n : Int) := by omega
    have e0 : B.l.args.getD n 0 = 0 := by simp [List.getElem?_eq_none (Nat.le_of_not_lt hlt)]
    rw [e0]
    clear hA e0
    generalize B.l.args.length = nn at *
    go_enter Tryd.func42, Tryd.ntmps42
    go_wp2_with fail
    go_ret
    exact ⟨rfl, rfl⟩
theorem rt33 : RowT 33 56 2 16 (.agg #[.int .i64 0, .int .i64 0]) := ⟨Tryd.underlying33, by kernel_rfl, rfl, by omega, by omega⟩
theorem rt34 : RowT 34 65 3 32 (.agg #[.string ⟨#[]⟩, .int .i64 0, .int .i64 0]) := ⟨Tryd.underlying34, by kernel_rfl, rfl, by omega, by omega⟩
theorem rt35 : RowT 35 58 5 48 (.agg #[.string ⟨#[]⟩, .bool false, .int .i64 0, .int .i64 0, .int .i64 0]) := ⟨Tryd.underlying35, by kernel_rfl, rfl, by omega, by omega⟩
set_option maxHeartbeats 2000000 in
theorem store44 (h : MSt B w p m k) (r : Nat) (hr : r ≤ 7) (x : Int) (hl : m.ev.length ≤ 900) : Calls Tryd.prog 44 #[.pointer (some ⟨p, 0, none⟩), .int .i64 (r : Int), .int .i64 x] w fun e w' => e = .returned (.tuple #[]) ∧ MSt B w' p { m with reg := m.reg.set r x, ev := m.ev ++ [⟨r, x⟩] } k := by
  obtain ⟨stk, ev, sn, tm, h⟩ := h
  have h1 := h.rs.put_reg tyM_ok (o := 25 + r) x (by rw [h.len]) (by omega)
  obtain ⟨y, hy⟩ : ∃ y, m.reg[r]? = some y := ⟨_, List.getElem?_eq_getElem (by rw [h.rs.r8]; omega)⟩
  have c0 : w.cell? ⟨p, 25 + r, none⟩ = some (Iv y) := h.rs.cell_res (by rw [h.len]) (cellsR_reg hy)
  have f0 := h.rs.free (25 + r)
  obtain ⟨a, c, rfl, -, -⟩ := h.rs.ev.form
  rw [rowE_length] at *
  obtain ⟨ad, c', w2, hrun, c2, f2, H2⟩ := h1.addEv rt33 tyM_ok (by omega) ⟨r, x⟩ 33 (by rw [h.len]) 56 (0, 0) 33
  have c1 := h1.cell_res (o := 33) (by rw [h.len]) (cellsR_ev h1.r8)
  rw [show (w.setCell ⟨p, 25 + r, none⟩ (Iv x)).heap.size = w.heap.size by simp] at hrun
  have HM : Hid (MSt B (w2.setCell ⟨p, 33, none⟩ (.slice ad (m.ev.length + 1) c')) p { m with reg := m.reg.set r x, ev := m.ev ++ [⟨r, x⟩] } k) := ⟨stk, _, sn, tm, h.s16, h.top, H2⟩
  have q0 : (0 : Int) ≤ (r : Int) := by omega
  have q1 : (r : Int) < 8 := by omega
  clear h h1 H2 hy
  generalize m.ev.length = n at *
  go_enter Tryd.func44, Tryd.ntmps44
  go_wp2_with (at_builtin; refine wpList_append_run 33 33 (.tmp 18) (.tmp 22) rfl (by rfl) _ _ rfl rfl _ _ hrun ?_)
  go_end0
  exact ⟨rfl, HM.out⟩
end
end Go.Proofs.YtpodoiichpnpjaaDoor
/-
  The document's machine in memory; push, pop.
-/
namespace Go.Proofs.YtpodoiichpnpjaaDoor
open Go.RowKit
set_option maxRecDepth 100000
set_option linter.unusedVariables false
def tyF : Ty := ⟨78, 85, 82, 100⟩
theorem tyF_ok : tyF.Ok := by unfold Ty.Ok tyF; decide
def preF (B : Bs) (pl : Int) (sv : Value) : List Value := B.fix ++ [.int .i64 pl, sv]
theorem rt28 : RowT 28 2 1 8 (.int .i64 0) := ⟨Tryd.underlying28, by kernel_rfl, rfl, by omega, by omega⟩
theorem rt45F : RowT 45 85 2 16 (.agg #[.int .i64 0, .int .i64 0]) := ⟨Tryd.underlying45, by kernel_rfl, rfl, by omega, by omega⟩
theorem rt46F : RowT 46 82 3 32 (.agg #[.string ⟨#[]⟩, .int .i64 0, .int .i64 0]) := ⟨Tryd.underlying46, by kernel_rfl, rfl, by omega, by omega⟩
theorem rt47F : RowT 47 100 5 48 (.agg #[.string ⟨#[]⟩, .bool false, .int .i64 0, .int .i64 0, .int .i64 0]) := ⟨Tryd.underlying47, by kernel_rfl, rfl, by omega, by omega⟩
/-- The machine at block p. -/
structure FS (B : Bs) (w : World) (p : Nat) (m : Mc) (k : Nat) (sv ev sn tm : Value) : Prop where
  st : Out 2 1 B.w0 w sv (rowJ m.st)
  rs : RS tyF B.w0 w p (preF B (m.at_ : Int) sv) m.reg m.ev m.sent m.tm k ev sn tm
def FSt (B : Bs) (w : World) (p : Nat) (m : Mc) (k : Nat) : Prop := ∃ sv ev sn tm, FS B w p m k sv ev sn tm
section
variable {B : Bs} {w w' : World} {p : Nat} {m : Mc} {k : Nat} {sv ev sn tm : Value}
theorem FS.len (h : FS B w p m k sv ev sn tm) : (preF B (m.at_ : Int) sv).length = 9 := rfl
theorem FS.keep (h : FS B w p m k sv ev sn tm) (kk : Kept [] w w') : FS B w' p m k sv ev sn tm := ⟨h.st.keep kk, h.rs.keep kk⟩
theorem FSt.keep (h : FSt B w p m k) (kk : Kept [] w w') : FSt B w' p m k := by
  obtain ⟨sv, ev, sn, tm, h⟩ := h
  exact ⟨sv, ev, sn, tm, h.keep kk⟩
theorem FSt.kept (h : FSt B w p m k) : Kept [] B.w0 w := by
  obtain ⟨sv, ev, sn, tm, h⟩ := h
  exact h.rs.kept
theorem FSt.r8 (h : FSt B w p m k) : m.reg.length = 8 := by
  obtain ⟨sv, ev, sn, tm, h⟩ := h
  exact h.rs.r8
theorem FS.fix (h : FS B w p m k sv ev sn tm) {i : Nat} {x : Value} (hi : B.fix[i]? = some x) : w.cell? ⟨p, i, none⟩ = some x :=
  h.rs.cell_pre (by unfold preF; rw [List.getElem?_append_left (List.getElem?_eq_some_iff.1 hi).1]; exact hi)
theorem FS.c_at (h : FS B w p m k sv ev sn tm) : w.cell? ⟨p, 7, none⟩ = some (Iv (m.at_ : Int)) := h.rs.cell_pre rfl
theorem FS.c_st (h : FS B w p m k sv ev sn tm) : w.cell? ⟨p, 8, none⟩ = some sv := h.rs.cell_pre rfl
/-- The place is set. -/
theorem FS.put_at (h : FS B w p m k sv ev sn tm) (n : Nat) : FSt B (w.setCell ⟨p, 7, none⟩ (Iv (n : Int))) p { m with at_ := n } k :=
  ⟨sv, ev, sn, tm, h.st.boxed h.rs.box (by decide) h.rs.hp ((Kept.refl [p] w).setCell (.inl (by simp)) _), h.rs.put_pre tyF_ok (Iv (n : Int)) (by rw [h.len]; omega) rfl⟩
/-- The stack is another row. -/
theorem FS.put_st {w2 : World} {sv' : Value} {st' : List Int} (h : FS B w p m k sv ev sn tm) (k2 : Kept sv.ownBlock.toList w w2) (hO : Out 2 1 B.w0 w2 sv' (rowJ st')) : w2.cell? ⟨p, 8, none⟩ = some sv ∧ w2.frozen? ⟨p, 8, none⟩ = false ∧ FSt B (w2.setCell ⟨p, 8, none⟩ sv') p { m with st := st' } k := by
  have gv : sv.ownBlock ≠ some p := ownsR_ne h.st.own h.rs.box (by decide)
  have h2 : RS tyF B.w0 w2 p (preF B (m.at_ : Int) sv) m.reg m.ev m.sent m.tm k ev sn tm := ⟨k2.keeps h.rs.box (by simpa using gv), h.rs.r8, h.rs.ev.besides h.st (by decide) k2, h.rs.sn.besides h.st (by decide) k2, h.rs.tm.besides h.st (by decide) k2, h.rs.hp⟩
  exact ⟨h2.cell_pre rfl, h2.free _, sv', ev, sn, tm, hO.boxed h2.box (by decide) h.rs.hp ((Kept.refl [p] w2).setCell (.inl (by simp)) _), h2.put_pre tyF_ok sv' (by rw [h.len]; omega) rfl⟩
set_option maxHeartbeats 2000000 in
theorem push37 (h : FSt B w p m k) (x : Int) (hl : m.st.length ≤ 900) : Calls Tryd.prog 37 #[.pointer (some ⟨p, 0, none⟩), .int .i64 x] w fun e w' => e = .returned (.tuple #[]) ∧ FSt B w' p { m with st := m.st ++ [x] } k := by
  obtain ⟨sv, ev, sn, tm, h⟩ := h
  have c0 := h.c_st
  have hl' : (rowJ m.st).length ≤ 900000 := by rw [rowJ_length]; omega
  obtain ⟨ad, c, w2, hrun, hO, k2, hN⟩ := append_rowR rt28 h.st.own [.int .i64 x] rfl (by simp [Value.oneCell']) hl' 2 (0, 0) 28
  have e1 : rowJ (m.st ++ [x]) = rowJ m.st ++ [[.int .i64 x]] := by simp [rowJ]
  have hO2 : Out 2 1 B.w0 w2 (.slice ad ((rowJ m.st).length + 1) c) (rowJ (m.st ++ [x])) := ⟨by rw [e1]; exact hO, fun g' hg' => by
    rcases hN g' hg' with h3 | h3
    · exact h.st.new g' h3
    · exact Nat.le_trans h.st.kept.size h3, h.st.kept.trans k2 (fun x hx => .inr (h.st.new x (by simpa using hx)))⟩
  obtain ⟨c2, f2, H2⟩ := h.put_st k2 hO2
  have HM := Hid.mk H2
  obtain ⟨a', c', rfl, -, -⟩ := h.st.form
  clear h hO hO2 k2 hN H2 e1 hl'
  generalize (rowJ m.st).length = n at *
  go_enter Tryd.func37, Tryd.ntmps37
  go_wp2_with (at_builtin; refine wpList_append_run 28 28 (.tmp 8) (.tmp 10) rfl (by rfl) _ _ rfl rfl _ _ hrun ?_)
  go_end0
  exact ⟨rfl, HM.out⟩
set_option maxHeartbeats 2000000 in
theorem pop36 (h : FSt B w p m k) (hne : m.st ≠ []) (hl : m.st.length ≤ 900) : Calls Tryd.prog 36 #[.pointer (some ⟨p, 0, none⟩)] w fun e w' => e = .returned (.int .i64 (m.st.getLastD 0)) ∧ FSt B w' p { m with st := m.st.dropLast } k ∧ Kept [p] w w' := by
  obtain ⟨sv, ev, sn, tm, h⟩ := h
  obtain ⟨n, hn⟩ : ∃ n, m.st.length = n + 1 := ⟨m.st.length - 1, by have := List.length_pos_iff.2 hne; omega⟩
  have c0 := h.c_st
  have hR := h.st.own.reads (wideJ _)
  obtain ⟨a, c, rfl, hc1, hc2⟩ := h.st.form
  obtain ⟨x, hx⟩ : ∃ v, m.st.getLast? = some v := ⟨_, List.getLast?_eq_some_getLast hne⟩
  have ex : m.st.getLastD 0 = x := by rw [List.getLastD_eq_getLast?, hx]; rfl
  rw [List.getLast?_eq_getElem?, hn, Nat.add_sub_cancel] at hx
  rw [ex]
  obtain ⟨b, o, rfl, hcx⟩ := rowJ_at hR hx
  have hln : (rowJ m.st).length = n + 1 := by rw [rowJ_length, hn]
  have hdl : m.st.dropLast = m.st.take n := by rw [List.dropLast_eq_take, hn, Nat.add_sub_cancel]
  have hdn : (rowJ m.st.dropLast).length = n := by rw [rowJ_length, List.length_dropLast, hn, Nat.add_sub_cancel]
  obtain ⟨W1, e1, k1, hz1, hb1⟩ := box1 w (.cells #[] 2)
  have hP : ReadsR 1 W1 (.slice (some ⟨b, o, none⟩) n c) (rowJ m.st.dropLast) := by
    obtain ⟨a', cap, e, h2, h3, h4, h5⟩ := hR.keep k1
    simp only [Value.slice.injEq] at e
    obtain ⟨rfl, -, rfl⟩ := e
    obtain ⟨b', o', e', hh⟩ := h5 (by intro e; rw [e] at hln; simp at hln)
    refine ⟨_, _, by rw [hdn], by omega, h3, by simp, fun _ => ⟨b', o', e', fun j r hr => hh j r ?_⟩⟩
    rw [hdl] at hr
    simp only [rowJ, List.map_take] at hr ⊢
    rw [List.getElem?_take] at hr
    split at hr
    · exact hr
    · cases hr
  have hown : OwnsR 2 1 W1 (.slice (some ⟨w.heap.size, 0, none⟩) 0 0) [] := ownsR_block (rs := []) hb1 (fun r hr => by simp at hr) rfl (by unfold maxLen; omega)
  obtain ⟨ad, cc, W2, hrun, hO, hg, hN⟩ := run_appendR rt28 W1 28 _ [] hown _ (rowJ m.st.dropLast) (wideJ _) hP (by rw [hdn]; simp; omega)
  have k2 : Kept [w.heap.size] W1 W2 := ((Kept.refl [] W1).mono (by simp)).grown hg (fun x hx => .inl (by simp [Value.ownBlock] at hx; simp [hx]))
  have k3 : Kept [] w W2 := k1.trans k2 (fun x hx => .inr (by simp at hx; omega))
  simp only [List.nil_append, List.length_nil, Nat.zero_add] at hrun hO hN
  rw [hdn] at hrun hO hN
  have hO2 : Out 2 1 B.w0 W2 (.slice ad n cc) (rowJ m.st.dropLast) := ⟨hO, fun g' hg' => by
    rcases hN g' hg' with h3 | h3
    · simp [Value.ownBlock] at h3; rw [← h3]; exact h.st.kept.size
    · exact Nat.le_trans h.st.kept.size (Nat.le_trans k1.size h3), h.st.kept.then k3⟩
  obtain ⟨c2, f2, H2⟩ := h.put_st (k3.mono (by simp)) hO2
  have HM := Hid.mk H2
  have HK : Hid (Kept [p] w (W2.setCell ⟨p, 8, none⟩ (.slice ad n cc))) := (k3.mono (by simp)).setCell (.inl (by simp)) _
  have c3 : W1.cell? ⟨p, 8, none⟩ = some (.slice (some ⟨b, o, none⟩) (n + 1) c) := by rw [← hln]; exact k1.cell_eq c0
  rw [hln] at c0 hc1
  rw [hln] at c2
  have q0 : (0 : Int) ≤ (n : Int) := by omega
  have q1 : (n : Int) < ((n + 1 : Nat) : Int) := by omega
  have q2 : (n : Int) ≤ (c : Int) := by omega
  have q3 : n < n + 1 := by omega
  have q4 : n ≤ c := by omega
  have q5 : IntKind.i64.wrap (((n + 1 : Nat) : Int) - 1) = (n : Int) := by rw [show ((n + 1 : Nat) : Int) - 1 = (n : Int) by omega]; exact w64_small _ (by omega)
  clear h hO hO2 k2 k3 hN H2 hP hown hg hdn hdl hln hR hx ex hn hne hb1 hz1 hl
  go_enter Tryd.func36, Tryd.ntmps36
  go_wp2_with (at_builtin; refine wpList_append_run 28 28 (.tmp 19) (.tmp 25) rfl (by rfl) _ _ rfl rfl _ _ hrun ?_)
  go_ret
  exact ⟨rfl, HM.out, HK.out⟩
end
end Go.Proofs.YtpodoiichpnpjaaDoor
