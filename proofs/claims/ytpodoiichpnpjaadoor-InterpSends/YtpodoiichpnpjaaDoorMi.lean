/-
  The program's machine in memory; push, pop, a letter's argument.
-/
import Derived.Test.YtpodoiichpnpjaaDoorRz
import Derived.Test.YtpodoiichpnpjaaDoorZk
namespace Go.Proofs.YtpodoiichpnpjaaDoor
open Go.RowKit
set_option maxRecDepth 100000
set_option linter.unusedVariables false
/-- What a run stands on: a program, a letter and a tick, and where their rows lie; w0: the world ahead of it. -/
structure Bs where
  w0 : World
  nv : Value
  cv : Value
  av : Value
  pg : Pg
  l : Lt
  now : Int
def Bs.fix (B : Bs) : List Value := [B.nv, B.cv, .string ⟨B.l.fr.toArray⟩, .int .u64 (B.l.ser : Int), .int .i64 B.l.kind, B.av, .int .i64 B.now]
structure Bs.Ok (B : Bs) : Prop where
  prog : IsP B.w0 B.nv B.cv B.pg
  args : ReadsR 1 B.w0 B.av (rowJ B.l.args)
def tyM : Ty := ⟨73, 56, 65, 58⟩
theorem tyM_ok : tyM.Ok := by unfold Ty.Ok tyM; decide
def preM (B : Bs) (pl : Int) (stk : List Int) (d : Int) : List Value := B.fix ++ (.int .i64 pl :: (BI stk ++ [.int .i64 d]))
section
variable {B : Bs} {pl d : Int} {stk : List Int}
theorem preM_length (hs : stk.length = 16) : (preM B pl stk d).length = 25 := by simp [preM, Bs.fix, BI_length, hs]
theorem preM_stk (hs : stk.length = 16) {i : Nat} {x : Int} (hi : stk[i]? = some x) : (preM B pl stk d)[8 + i]? = some (Iv x) := by
  have hl : i < (BI stk).length := by rw [BI_length]; exact (List.getElem?_eq_some_iff.1 hi).1
  unfold preM
  rw [List.getElem?_append_right (by simp [Bs.fix]; omega), show 8 + i - B.fix.length = i + 1 by simp [Bs.fix]; omega, List.getElem?_cons_succ, List.getElem?_append_left hl]
  exact BI_get hi
theorem preM_dep (hs : stk.length = 16) : (preM B pl stk d)[24]? = some (Iv d) := by
  unfold preM
  rw [List.getElem?_append_right (by simp [Bs.fix]), show 24 - B.fix.length = 16 + 1 by simp [Bs.fix], List.getElem?_cons_succ, List.getElem?_append_right (by rw [BI_length]; omega), BI_length, hs]
  rfl
theorem preM_set_stk (hs : stk.length = 16) {i : Nat} (hi : i < 16) (x : Int) : (preM B pl stk d).set (8 + i) (Iv x) = preM B pl (stk.set i x) d := by
  unfold preM
  rw [List.set_append_right _ _ (by simp [Bs.fix]; omega), show 8 + i - B.fix.length = i + 1 by simp [Bs.fix]; omega, List.set_cons_succ, List.set_append_left _ _ (by rw [BI_length]; omega), BI_set]
theorem preM_set_dep (hs : stk.length = 16) (q : Int) : (preM B pl stk d).set 24 (Iv q) = preM B pl stk q := by
  unfold preM
  rw [List.set_append_right _ _ (by simp [Bs.fix]), show 24 - B.fix.length = 16 + 1 by simp [Bs.fix], List.set_cons_succ, List.set_append_right _ _ (by rw [BI_length]; omega), BI_length, hs]
  rfl
end
/-- The machine at block p. -/
structure MS (B : Bs) (w : World) (p : Nat) (m : Mc) (k : Nat) (stk : List Int) (ev sn tm : Value) : Prop where
  s16 : stk.length = 16
  top : stk.take m.st.length = m.st
  rs : RS tyM B.w0 w p (preM B (m.at_ : Int) stk (m.st.length : Int)) m.reg m.ev m.sent m.tm k ev sn tm
def MSt (B : Bs) (w : World) (p : Nat) (m : Mc) (k : Nat) : Prop := ∃ stk ev sn tm, MS B w p m k stk ev sn tm
section
variable {B : Bs} {w w' : World} {p : Nat} {m : Mc} {k : Nat} {stk : List Int} {ev sn tm : Value}
theorem MS.le (h : MS B w p m k stk ev sn tm) : m.st.length ≤ 16 := by
  have := congrArg List.length h.top
  rw [List.length_take, h.s16] at this
  omega
theorem MS.keep (h : MS B w p m k stk ev sn tm) (kk : Kept [] w w') : MS B w' p m k stk ev sn tm := ⟨h.s16, h.top, h.rs.keep kk⟩
theorem MSt.keep (h : MSt B w p m k) (kk : Kept [] w w') : MSt B w' p m k := by
  obtain ⟨stk, ev, sn, tm, h⟩ := h
  exact ⟨stk, ev, sn, tm, h.keep kk⟩
theorem MSt.kept (h : MSt B w p m k) : Kept [] B.w0 w := by
  obtain ⟨stk, ev, sn, tm, h⟩ := h
  exact h.rs.kept
theorem MSt.le (h : MSt B w p m k) : m.st.length ≤ 16 := by
  obtain ⟨stk, ev, sn, tm, h⟩ := h
  exact h.le
theorem MSt.r8 (h : MSt B w p m k) : m.reg.length = 8 := by
  obtain ⟨stk, ev, sn, tm, h⟩ := h
  exact h.rs.r8
theorem MS.dep (h : MS B w p m k stk ev sn tm) : w.cell? ⟨p, 24, none⟩ = some (Iv (m.st.length : Int)) := h.rs.cell_pre (preM_dep h.s16)
theorem MS.len (h : MS B w p m k stk ev sn tm) : (preM B (m.at_ : Int) stk (m.st.length : Int)).length = 25 := preM_length h.s16
/-- An integer is laid on the stack. -/
theorem MS.pushed (h : MS B w p m k stk ev sn tm) (x : Int) (hl : m.st.length < 16) : (∃ y, w.cell? ⟨p, 8 + m.st.length, none⟩ = some (Iv y)) ∧ (w.setCell ⟨p, 8 + m.st.length, none⟩ (Iv x)).cell? ⟨p, 24, none⟩ = some (Iv (m.st.length : Int)) ∧ (w.setCell ⟨p, 8 + m.st.length, none⟩ (Iv x)).frozen? ⟨p, 24, none⟩ = false ∧ MSt B ((w.setCell ⟨p, 8 + m.st.length, none⟩ (Iv x)).setCell ⟨p, 24, none⟩ (Iv ((m.st.length : Int) + 1))) p { m with st := m.st ++ [x] } k := by
  obtain ⟨y, hy⟩ : ∃ y, stk[m.st.length]? = some y := ⟨_, List.getElem?_eq_getElem (by rw [h.s16]; exact hl)⟩
  have h1 : RS tyM B.w0 (w.setCell ⟨p, 8 + m.st.length, none⟩ (Iv x)) p (preM B (m.at_ : Int) (stk.set m.st.length x) (m.st.length : Int)) m.reg m.ev m.sent m.tm k ev sn tm := h.rs.put_pre tyM_ok (Iv x) (by rw [h.len]; omega) (preM_set_stk h.s16 hl x)
  have s' : (stk.set m.st.length x).length = 16 := by rw [List.length_set]; exact h.s16
  refine ⟨⟨y, h.rs.cell_pre (preM_stk h.s16 hy)⟩, h1.cell_pre (preM_dep s'), h1.free _, stk.set m.st.length x, ev, sn, tm, s', ?_, ?_⟩
  · show (stk.set m.st.length x).take (m.st ++ [x]).length = m.st ++ [x]
    rw [List.length_append, List.length_singleton, List.take_add_one, List.getElem?_set_self (by rw [h.s16]; exact hl), List.take_set_of_le (Nat.le_refl _), h.top]
    rfl
  · have := h1.put_pre tyM_ok (Iv ((m.st.length : Int) + 1)) (o := 24) (by rw [preM_length s']; omega) (preM_set_dep s' _)
    show RS tyM B.w0 _ p (preM B (m.at_ : Int) (stk.set m.st.length x) ((m.st ++ [x]).length : Int)) m.reg m.ev m.sent m.tm k ev sn tm
    rw [List.length_append, List.length_singleton]
    exact this
/-- The top is taken. -/
theorem MS.popped (h : MS B w p m k stk ev sn tm) (hl : m.st ≠ []) : ∃ n, m.st.length = n + 1 ∧ (w.setCell ⟨p, 24, none⟩ (Iv (n : Int))).cell? ⟨p, 24, none⟩ = some (Iv (n : Int)) ∧ (w.setCell ⟨p, 24, none⟩ (Iv (n : Int))).cell? ⟨p, 8 + n, none⟩ = some (Iv (m.st.getLastD 0)) ∧ MSt B (w.setCell ⟨p, 24, none⟩ (Iv (n : Int))) p { m with st := m.st.dropLast } k := by
  obtain ⟨n, hn⟩ : ∃ n, m.st.length = n + 1 := ⟨m.st.length - 1, by have := List.length_pos_iff.2 hl; omega⟩
  have h1 : RS tyM B.w0 (w.setCell ⟨p, 24, none⟩ (Iv (n : Int))) p (preM B (m.at_ : Int) stk (n : Int)) m.reg m.ev m.sent m.tm k ev sn tm := h.rs.put_pre tyM_ok (Iv (n : Int)) (o := 24) (by rw [h.len]; omega) (preM_set_dep h.s16 _)
  have hle := h.le
  have hg : stk[n]? = some (m.st.getLastD 0) := by
    obtain ⟨v, hv⟩ : ∃ v, m.st.getLast? = some v := ⟨_, List.getLast?_eq_some_getLast hl⟩
    have e0 : m.st.getLastD 0 = v := by rw [List.getLastD_eq_getLast?, hv]; rfl
    rw [List.getLast?_eq_getElem?, hn, Nat.add_sub_cancel, ← h.top, List.getElem?_take, hn, if_pos (Nat.lt_succ_self n)] at hv
    rw [e0, hv]
  refine ⟨n, hn, h1.cell_pre (preM_dep h.s16), h1.cell_pre (preM_stk h.s16 hg), stk, ev, sn, tm, h.s16, ?_, ?_⟩
  · show stk.take m.st.dropLast.length = m.st.dropLast
    rw [List.length_dropLast, hn, Nat.add_sub_cancel, List.dropLast_eq_take, hn, Nat.add_sub_cancel, ← h.top, hn, List.take_take, Nat.min_eq_left (Nat.le_succ n)]
  · show RS tyM B.w0 _ p (preM B (m.at_ : Int) stk (m.st.dropLast.length : Int)) m.reg m.ev m.sent m.tm k ev sn tm
    rw [List.length_dropLast, hn, Nat.add_sub_cancel]
    exact h1
set_option maxHeartbeats 2000000 in
theorem push41 (h : MSt B w p m k) (x : Int) (hl : m.st.length < 16) : Calls Tryd.prog 41 #[.pointer (some ⟨p, 0, none⟩), .int .i64 x] w fun e w' => e = .returned (.tuple #[]) ∧ MSt B w' p { m with st := m.st ++ [x] } k := by
  obtain ⟨stk, ev, sn, tm, h⟩ := h
  obtain ⟨⟨y, c0⟩, c1, f1, HM⟩ := h.pushed x hl
  have c2 : w.drew.cell? ⟨p, 24, none⟩ = some (Iv (m.st.length : Int)) := h.dep
  have f0 : w.drew.frozen? ⟨p, 8 + m.st.length, none⟩ = false := h.rs.free (8 + m.st.length)
  have c0 : w.drew.cell? ⟨p, 8 + m.st.length, none⟩ = some (Iv y) := c0
  have c1 : (w.setCell ⟨p, 8 + m.st.length, none⟩ (Iv x)).drew.cell? ⟨p, 24, none⟩ = some (Iv (m.st.length : Int)) := c1
  have f1 : (w.setCell ⟨p, 8 + m.st.length, none⟩ (Iv x)).drew.frozen? ⟨p, 24, none⟩ = false := f1
  have HM := Hid.mk (HM.keep (Kept.refl [] _).drew)
  have q1 : (m.st.length : Int) < 16 := by omega
  have q2 : (0 : Int) ≤ (m.st.length : Int) := by omega
  clear h
  generalize m.st.length = d at *
  go_enter Tryd.func41, Tryd.ntmps41
  go_wp2_with fail
  go_region
  go_wp2_with fail
  go_end0
  exact ⟨rfl, HM.out⟩
set_option maxHeartbeats 2000000 in
theorem pop30 (h : MSt B w p m k) (hl : m.st ≠ []) : Calls Tryd.prog 30 #[.pointer (some ⟨p, 0, none⟩)] w fun e w' => e = .returned (.int .i64 (m.st.getLastD 0)) ∧ MSt B w' p { m with st := m.st.dropLast } k ∧ Kept [p] w w' := by
  obtain ⟨stk, ev, sn, tm, h⟩ := h
  obtain ⟨n, hn, c1, c0, HM⟩ := h.popped hl
  have c2 := h.dep
  have f2 := h.rs.free 24
  have hle := h.le
  have HM := Hid.mk (HM.keep (Kept.refl [] _).drew)
  have S1 : (w.setCell ⟨p, 24, none⟩ (Iv (n : Int))).drew.cell? ⟨p, 24, none⟩ = some (Iv (n : Int)) := c1
  have S0 : (w.setCell ⟨p, 24, none⟩ (Iv (n : Int))).drew.cell? ⟨p, 8 + n, none⟩ = some (Iv (m.st.getLastD 0)) := c0
  rw [hn] at c2
  have q1 : (n : Int) < 16 := by omega
  have q2 : (0 : Int) ≤ (n : Int) := by omega
  have q3 : IntKind.i64.wrap (((n + 1 : Nat) : Int) - 1) = (n : Int) := by rw [show ((n + 1 : Nat) : Int) - 1 = (n : Int) by omega]; exact w64_small _ (by omega)
  clear h hle hn
  generalize m.st.getLastD 0 = x at *
  go_enter Tryd.func30, Tryd.ntmps30
  go_wp2_with fail
  go_region
  go_wp2_with fail
  go_ret
  exact ⟨rfl, HM.out, ((Kept.refl [p] w).setCell (p := ⟨p, 24, none⟩) (.inl (by simp)) _).drew⟩
end
end Go.Proofs.YtpodoiichpnpjaaDoor
