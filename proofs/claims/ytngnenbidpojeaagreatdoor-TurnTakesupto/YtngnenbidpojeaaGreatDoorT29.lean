import Derived.Deep.RegionHeld3
import Derived.Deep.RegionLaw
import Derived.Test.YtngnenbidpojeaaGreatDoorT27
/-
 The document's machine: one, operation by operation.
-/
namespace Go.Proofs.YtngnenbidpojeaaGreatDoor
open Go.RowKit
set_option maxRecDepth 100000
set_option linter.unusedVariables false
section
variable {B : Bs} {w w' : World} {p : Nat} {m : Mc} {k : Nat} {sv ev sn tm : Value}
set_option maxHeartbeats 8000000 in
theorem one22_15 {arg : Int} (hG : B.Good) (h : FSt B w p m k) (hx : B.pg.code[m.at_]? = some ⟨15, arg⟩) (hF : Fit B.pg 15 arg) (hL : Lite m) (hst : m.st.length ≤ 16) : Calls Tryz.prog 101 #[.pointer (some ⟨p, 0, none⟩)] w fun e w' => Ret2 (OuF B p k (oneI B.pg B.l B.now m ⟨15, arg⟩)) e w' := by
 obtain ⟨sv, ev, sn, tm, h⟩ := h
 obtain ⟨b, o, d, c1, c2, c3⟩ := h.c_ins hG.ok hx
 have c4 := h.c_at
 have hat : m.at_ < B.pg.code.length := (List.getElem?_eq_some_iff.1 hx).1
 have hat2 : m.at_ < 200 := by have := hG.few; omega
 have q0 : (0 : Int) ≤ (m.at_ : Int) := by omega
 have q1 : (m.at_ : Int) < (B.pg.code.length : Int) := by omega
 dsimp only at c2 c3
 have SP : Hid (∀ V, Kept [] w V → V.cell? ⟨p, 1, none⟩ = some (.slice (some ⟨b, o, none⟩) B.pg.code.length d) ∧ V.cell? ⟨p, 7, none⟩ = some (Iv_N (m.at_ : Int)) ∧ V.cell? ⟨b, o + m.at_ * 2, none⟩ = some (.int .i64 15) ∧ V.cell? ⟨b, o + m.at_ * 2 + 1, none⟩ = some (.int .i64 arg)) := Hid.mk (fun V kk => ⟨kk.cell_eq c1, kk.cell_eq c4, kk.cell_eq c2, kk.cell_eq c3⟩)
 have HO : Hid (∀ t gv, t = (effI 15).1 → gv = (effI 15).2 → oneI B.pg B.l B.now m ⟨15, arg⟩ = (if m.st.length < t ∨ 16 < m.st.length - t + gv then .err 10 else if t = 2 then actI B.pg B.l B.now { m with at_ := m.at_ + 1, st := m.st.dropLast.dropLast } 15 gv arg (m.st.dropLast.getLastD 0) (m.st.getLastD 0) else if t = 1 then actI B.pg B.l B.now { m with at_ := m.at_ + 1, st := m.st.dropLast } 15 gv arg (m.st.getLastD 0) 0 else actI B.pg B.l B.now { m with at_ := m.at_ + 1 } 15 gv arg 0 0)) := Hid.mk (fun t gv e1 e2 => by subst e1 e2; rfl)
 have HT := fun W => effect35_15 (w := W)
 have hgv1 : (effI 15).1 ≤ 2 ∧ (effI 15).2 ≤ 2 := effI_le2
 have ha3 := hF.plc (.inl rfl)
 obtain ⟨n, rfl⟩ : ∃ n : Nat, arg = (n : Int) := ⟨arg.toNat, by omega⟩
 obtain ⟨t, ht⟩ : ∃ t, t = (effI 15).1 := ⟨_, rfl⟩
 obtain ⟨gv, hgv⟩ : ∃ gv, gv = (effI 15).2 := ⟨_, rfl⟩
 have HO := Hid.mk (HO.out t gv ht hgv)
 rw [← ht, ← hgv] at HT hgv1
 obtain ⟨ht2, hg2⟩ := hgv1
 have HT := Hid.mk HT
 have HT2 := Hid.mk ht
 have HG2 := Hid.mk hgv
 have HL := Hid.mk hL
 clear c1 c2 c3 c4 ht hgv hx hF hL hG
 go_enter Tryz.func101, Tryz.ntmps101
 go_wp2_with fail
 go_region_held3 (fun V => V.cell? ⟨p, 1, none⟩ = some (.slice (some ⟨b, o, none⟩) B.pg.code.length d) ∧ V.cell? ⟨p, 7, none⟩ = some (Iv_N (m.at_ : Int)) ∧ V.cell? ⟨b, o + m.at_ * 2, none⟩ = some (.int .i64 15) ∧ V.cell? ⟨b, o + m.at_ * 2 + 1, none⟩ = some (.int .i64 (n : Int))) (first | exact SP.out _ (Kept.refl [] _).drew | exact SP.out _ ((Kept.refl [] _).alloc _).drew) (fail)
 obtain ⟨W2, e2⟩ : ∃ W2, (w.alloc (.cells #[.int .i64 15, .int .i64 (n : Int)] 108)).drew = W2 := ⟨_, rfl⟩
 rw [e2]
 have k2 : Kept [] w W2 := by rw [← e2]; exact ((Kept.refl [] _).alloc _).drew
 have hb2 : W2.heap[w.heap.size]? = some (.cells #[.int .i64 15, .int .i64 (n : Int)] 108) := by rw [← e2]; exact heap_alloc_new w _
 have h2 := h.keep k2
 have hpg : p ≠ w.heap.size := Nat.ne_of_lt (lt_of_block h.rs.box)
 clear e2 SP h
 generalize w.heap.size = g at *
 have c5 := h2.c_at
 have f5 := h2.rs.free 7
 have q3 : ((m.at_ + 1 : Nat) : Int) = (m.at_ : Int) + 1 := by omega
 obtain ⟨W3, e3⟩ : ∃ W3, W2.setCell ⟨p, 7, none⟩ (Iv_N ((m.at_ : Int) + 1)) = W3 := ⟨_, rfl⟩
 have h3 := h2.put_at (m.at_ + 1)
 rw [q3, e3] at h3
 have k3 : Kept [p] W2 W3 := by rw [← e3]; exact (Kept.refl [p] W2).setCell (.inl (by simp)) _
 have hb3 := k3.keeps hb2 (by simpa using Ne.symm hpg)
 obtain ⟨z0, z1⟩ := cells2_N hb3
 have HB := Hid.mk hb3
 have HPG := Hid.mk hpg
 have HM := Hid.mk h3
 obtain ⟨sv3, ev3, sn3, tm3, h3⟩ := h3
 obtain ⟨sa, sc, rfl, -, -⟩ := h3.st.form
 have c8 : W3.cell? ⟨p, 8, none⟩ = some (.slice sa m.st.length sc) := by
  have := h3.c_st
  rw [rowJ_length] at this
  exact this
 have q5 : IntKind.i64.wrap ((m.st.length : Int) - (t : Int)) = (m.st.length : Int) - (t : Int) := w64_small _ (by omega)
 have q7 : IntKind.i64.wrap ((m.st.length : Int) - (t : Int) + (gv : Int)) = (m.st.length : Int) - (t : Int) + (gv : Int) := w64_small _ (by omega)
 clear h2 h3 hb2 hb3 k2 k3 q3 hpg hat q1
 by_cases hlt : m.st.length < t
 ·have hI : (m.st.length : Int) < (t : Int) := by omega
  have HO3 := Hid.mk (HO.out.trans (if_pos (.inl hlt)))
  clear HO
  go_wp2_with (go_at_call 129; refine (HT.out _).mono ?_; rintro e w9 ⟨rfl, rfl⟩)
  go_ret2
  exact ⟨_, _, rfl, by rw [HO3.out]; exact ⟨rfl, rfl, _, HM.out⟩⟩
 by_cases hgt : 16 < m.st.length - t + gv
 ·have hI : ¬ (m.st.length : Int) < (t : Int) := by omega
  have hI2 : (16 : Int) < (m.st.length : Int) - (t : Int) + (gv : Int) := by omega
  have HO3 := Hid.mk (HO.out.trans (if_pos (.inr hgt)))
  clear HO
  go_wp2_with (go_at_call 129; refine (HT.out _).mono ?_; rintro e w9 ⟨rfl, rfl⟩)
  go_ret2
  exact ⟨_, _, rfl, by rw [HO3.out]; exact ⟨rfl, rfl, _, HM.out⟩⟩
 have hI : ¬ (m.st.length : Int) < (t : Int) := by omega
 have hI2 : ¬ (16 : Int) < (m.st.length : Int) - (t : Int) + (gv : Int) := by omega
 have HO3 := Hid.mk (HO.out.trans (if_neg (by omega)))
 clear HO
 obtain rfl : t = 0 := HT2.out
 obtain rfl : gv = 0 := HG2.out
 have HO4 := Hid.mk (HO3.out.trans ((if_neg (by omega)).trans (if_neg (by omega))))
 have hl9 : m.st.length ≤ 16 := hst
 have HL9 := Hid.mk hl9
 clear hl9
 obtain ⟨sv4, ev4, sn4, tm4, h4⟩ := HM.out
 have c7 := h4.c_at
 have f7 := h4.rs.free 7
 have HQ := Hid.mk (h4.put_at n)
 clear h4
 go_wp2_with (go_at_call 129; refine (HT.out _).mono ?_; rintro e w9 ⟨rfl, rfl⟩)
 go_ret2
 exact ⟨_, _, rfl, by rw [HO4.out, HG2.out]; exact ⟨rfl, rfl, HQ.out⟩⟩
set_option maxHeartbeats 8000000 in
theorem one22_16 {arg : Int} (hG : B.Good) (h : FSt B w p m k) (hx : B.pg.code[m.at_]? = some ⟨16, arg⟩) (hF : Fit B.pg 16 arg) (hL : Lite m) (hst : m.st.length ≤ 16) : Calls Tryz.prog 101 #[.pointer (some ⟨p, 0, none⟩)] w fun e w' => Ret2 (OuF B p k (oneI B.pg B.l B.now m ⟨16, arg⟩)) e w' := by
 obtain ⟨sv, ev, sn, tm, h⟩ := h
 obtain ⟨b, o, d, c1, c2, c3⟩ := h.c_ins hG.ok hx
 have c4 := h.c_at
 have hat : m.at_ < B.pg.code.length := (List.getElem?_eq_some_iff.1 hx).1
 have hat2 : m.at_ < 200 := by have := hG.few; omega
 have q0 : (0 : Int) ≤ (m.at_ : Int) := by omega
 have q1 : (m.at_ : Int) < (B.pg.code.length : Int) := by omega
 dsimp only at c2 c3
 have SP : Hid (∀ V, Kept [] w V → V.cell? ⟨p, 1, none⟩ = some (.slice (some ⟨b, o, none⟩) B.pg.code.length d) ∧ V.cell? ⟨p, 7, none⟩ = some (Iv_N (m.at_ : Int)) ∧ V.cell? ⟨b, o + m.at_ * 2, none⟩ = some (.int .i64 16) ∧ V.cell? ⟨b, o + m.at_ * 2 + 1, none⟩ = some (.int .i64 arg)) := Hid.mk (fun V kk => ⟨kk.cell_eq c1, kk.cell_eq c4, kk.cell_eq c2, kk.cell_eq c3⟩)
 have HO : Hid (∀ t gv, t = (effI 16).1 → gv = (effI 16).2 → oneI B.pg B.l B.now m ⟨16, arg⟩ = (if m.st.length < t ∨ 16 < m.st.length - t + gv then .err 10 else if t = 2 then actI B.pg B.l B.now { m with at_ := m.at_ + 1, st := m.st.dropLast.dropLast } 16 gv arg (m.st.dropLast.getLastD 0) (m.st.getLastD 0) else if t = 1 then actI B.pg B.l B.now { m with at_ := m.at_ + 1, st := m.st.dropLast } 16 gv arg (m.st.getLastD 0) 0 else actI B.pg B.l B.now { m with at_ := m.at_ + 1 } 16 gv arg 0 0)) := Hid.mk (fun t gv e1 e2 => by subst e1 e2; rfl)
 have HT := fun W => effect35_16 (w := W)
 have hgv1 : (effI 16).1 ≤ 2 ∧ (effI 16).2 ≤ 2 := effI_le2
 have ha3 := hF.plc (.inr rfl)
 obtain ⟨n, rfl⟩ : ∃ n : Nat, arg = (n : Int) := ⟨arg.toNat, by omega⟩
 obtain ⟨t, ht⟩ : ∃ t, t = (effI 16).1 := ⟨_, rfl⟩
 obtain ⟨gv, hgv⟩ : ∃ gv, gv = (effI 16).2 := ⟨_, rfl⟩
 have HO := Hid.mk (HO.out t gv ht hgv)
 rw [← ht, ← hgv] at HT hgv1
 obtain ⟨ht2, hg2⟩ := hgv1
 have HT := Hid.mk HT
 have HT2 := Hid.mk ht
 have HG2 := Hid.mk hgv
 have HL := Hid.mk hL
 clear c1 c2 c3 c4 ht hgv hx hF hL hG
 go_enter Tryz.func101, Tryz.ntmps101
 go_wp2_with fail
 go_region_held3 (fun V => V.cell? ⟨p, 1, none⟩ = some (.slice (some ⟨b, o, none⟩) B.pg.code.length d) ∧ V.cell? ⟨p, 7, none⟩ = some (Iv_N (m.at_ : Int)) ∧ V.cell? ⟨b, o + m.at_ * 2, none⟩ = some (.int .i64 16) ∧ V.cell? ⟨b, o + m.at_ * 2 + 1, none⟩ = some (.int .i64 (n : Int))) (first | exact SP.out _ (Kept.refl [] _).drew | exact SP.out _ ((Kept.refl [] _).alloc _).drew) (fail)
 obtain ⟨W2, e2⟩ : ∃ W2, (w.alloc (.cells #[.int .i64 16, .int .i64 (n : Int)] 108)).drew = W2 := ⟨_, rfl⟩
 rw [e2]
 have k2 : Kept [] w W2 := by rw [← e2]; exact ((Kept.refl [] _).alloc _).drew
 have hb2 : W2.heap[w.heap.size]? = some (.cells #[.int .i64 16, .int .i64 (n : Int)] 108) := by rw [← e2]; exact heap_alloc_new w _
 have h2 := h.keep k2
 have hpg : p ≠ w.heap.size := Nat.ne_of_lt (lt_of_block h.rs.box)
 clear e2 SP h
 generalize w.heap.size = g at *
 have c5 := h2.c_at
 have f5 := h2.rs.free 7
 have q3 : ((m.at_ + 1 : Nat) : Int) = (m.at_ : Int) + 1 := by omega
 obtain ⟨W3, e3⟩ : ∃ W3, W2.setCell ⟨p, 7, none⟩ (Iv_N ((m.at_ : Int) + 1)) = W3 := ⟨_, rfl⟩
 have h3 := h2.put_at (m.at_ + 1)
 rw [q3, e3] at h3
 have k3 : Kept [p] W2 W3 := by rw [← e3]; exact (Kept.refl [p] W2).setCell (.inl (by simp)) _
 have hb3 := k3.keeps hb2 (by simpa using Ne.symm hpg)
 obtain ⟨z0, z1⟩ := cells2_N hb3
 have HB := Hid.mk hb3
 have HPG := Hid.mk hpg
 have HM := Hid.mk h3
 obtain ⟨sv3, ev3, sn3, tm3, h3⟩ := h3
 obtain ⟨sa, sc, rfl, -, -⟩ := h3.st.form
 have c8 : W3.cell? ⟨p, 8, none⟩ = some (.slice sa m.st.length sc) := by
  have := h3.c_st
  rw [rowJ_length] at this
  exact this
 have q5 : IntKind.i64.wrap ((m.st.length : Int) - (t : Int)) = (m.st.length : Int) - (t : Int) := w64_small _ (by omega)
 have q7 : IntKind.i64.wrap ((m.st.length : Int) - (t : Int) + (gv : Int)) = (m.st.length : Int) - (t : Int) + (gv : Int) := w64_small _ (by omega)
 clear h2 h3 hb2 hb3 k2 k3 q3 hpg hat q1
 by_cases hlt : m.st.length < t
 ·have hI : (m.st.length : Int) < (t : Int) := by omega
  have HO3 := Hid.mk (HO.out.trans (if_pos (.inl hlt)))
  clear HO
  go_wp2_with (go_at_call 129; refine (HT.out _).mono ?_; rintro e w9 ⟨rfl, rfl⟩)
  go_ret2
  exact ⟨_, _, rfl, by rw [HO3.out]; exact ⟨rfl, rfl, _, HM.out⟩⟩
 by_cases hgt : 16 < m.st.length - t + gv
 ·have hI : ¬ (m.st.length : Int) < (t : Int) := by omega
  have hI2 : (16 : Int) < (m.st.length : Int) - (t : Int) + (gv : Int) := by omega
  have HO3 := Hid.mk (HO.out.trans (if_pos (.inr hgt)))
  clear HO
  go_wp2_with (go_at_call 129; refine (HT.out _).mono ?_; rintro e w9 ⟨rfl, rfl⟩)
  go_ret2
  exact ⟨_, _, rfl, by rw [HO3.out]; exact ⟨rfl, rfl, _, HM.out⟩⟩
 have hI : ¬ (m.st.length : Int) < (t : Int) := by omega
 have hI2 : ¬ (16 : Int) < (m.st.length : Int) - (t : Int) + (gv : Int) := by omega
 have HO3 := Hid.mk (HO.out.trans (if_neg (by omega)))
 clear HO
 obtain rfl : t = 1 := HT2.out
 obtain rfl : gv = 0 := HG2.out
 have HO4 := Hid.mk (HO3.out.trans ((if_neg (by omega)).trans (if_pos rfl)))
 have hne : m.st ≠ [] := fun e => hlt (by rw [e]; simp)
 have HPO := Hid.mk (pop36 HM.out hne (by show m.st.length ≤ 900; omega))
 have hl9 : m.st.dropLast.length ≤ 16 := by simp; omega
 clear hne
 dsimp only at HPO
 have HL9 := Hid.mk hl9
 clear hl9
 generalize m.st.getLastD 0 = x at *
 by_cases hx0 : x = 0
 ·subst hx0
  go_wp2_with (first | (go_at_call 129; refine (HT.out _).mono ?_; rintro e w9 ⟨rfl, rfl⟩) | (go_at_call 130; refine HPO.out.mono ?_; rintro e w5 ⟨rfl, h5, k5⟩; have hb6 := k5.keeps HB.out (by simpa using Ne.symm HPG.out); have t0 := (cells2_N hb6).1; have t1 := (cells2_N hb6).2; obtain ⟨sv4, ev4, sn4, tm4, h4⟩ := h5; have c7 := h4.c_at; have f7 := h4.rs.free 7; have HQ := Hid.mk (h4.put_at n); have HQ0 : Hid (FSt B w5 p { m with at_ := m.at_ + 1, st := m.st.dropLast } k) := Hid.mk ⟨sv4, ev4, sn4, tm4, h4⟩; clear h4))
  go_ret2
  exact ⟨_, _, rfl, by rw [HO4.out, HG2.out]; exact ⟨rfl, rfl, HQ.out⟩⟩
 ·have hx1 : (x == 0) = false := by simpa using hx0
  have HX0 := Hid.mk hx0
  clear hx0
  go_wp2_with (first | (go_at_call 129; refine (HT.out _).mono ?_; rintro e w9 ⟨rfl, rfl⟩) | (go_at_call 130; refine HPO.out.mono ?_; rintro e w5 ⟨rfl, h5, k5⟩; have hb6 := k5.keeps HB.out (by simpa using Ne.symm HPG.out); have t0 := (cells2_N hb6).1; have t1 := (cells2_N hb6).2; obtain ⟨sv4, ev4, sn4, tm4, h4⟩ := h5; have c7 := h4.c_at; have f7 := h4.rs.free 7; have HQ := Hid.mk (h4.put_at n); have HQ0 : Hid (FSt B w5 p { m with at_ := m.at_ + 1, st := m.st.dropLast } k) := Hid.mk ⟨sv4, ev4, sn4, tm4, h4⟩; clear h4))
  go_ret2
  have HQ1 : FSt B w5 p { m with at_ := if x = 0 then (n : Int).toNat else m.at_ + 1, st := m.st.dropLast } k := by rw [if_neg HX0.out]; exact HQ0.out
  exact ⟨_, _, rfl, by rw [HO4.out, HG2.out]; exact ⟨rfl, rfl, HQ1⟩⟩
set_option maxHeartbeats 8000000 in
theorem one22_3 {arg : Int} (hG : B.Good) (h : FSt B w p m k) (hx : B.pg.code[m.at_]? = some ⟨3, arg⟩) (hF : Fit B.pg 3 arg) (hL : Lite m) (hst : m.st.length ≤ 16) : Calls Tryz.prog 101 #[.pointer (some ⟨p, 0, none⟩)] w fun e w' => Ret2 (OuF B p k (oneI B.pg B.l B.now m ⟨3, arg⟩)) e w' := by
 obtain ⟨sv, ev, sn, tm, h⟩ := h
 obtain ⟨b, o, d, c1, c2, c3⟩ := h.c_ins hG.ok hx
 have c4 := h.c_at
 have hat : m.at_ < B.pg.code.length := (List.getElem?_eq_some_iff.1 hx).1
 have hat2 : m.at_ < 200 := by have := hG.few; omega
 have q0 : (0 : Int) ≤ (m.at_ : Int) := by omega
 have q1 : (m.at_ : Int) < (B.pg.code.length : Int) := by omega
 dsimp only at c2 c3
 have SP : Hid (∀ V, Kept [] w V → V.cell? ⟨p, 1, none⟩ = some (.slice (some ⟨b, o, none⟩) B.pg.code.length d) ∧ V.cell? ⟨p, 7, none⟩ = some (Iv_N (m.at_ : Int)) ∧ V.cell? ⟨b, o + m.at_ * 2, none⟩ = some (.int .i64 3) ∧ V.cell? ⟨b, o + m.at_ * 2 + 1, none⟩ = some (.int .i64 arg)) := Hid.mk (fun V kk => ⟨kk.cell_eq c1, kk.cell_eq c4, kk.cell_eq c2, kk.cell_eq c3⟩)
 have HO : Hid (∀ t gv, t = (effI 3).1 → gv = (effI 3).2 → oneI B.pg B.l B.now m ⟨3, arg⟩ = (if m.st.length < t ∨ 16 < m.st.length - t + gv then .err 10 else if t = 2 then actI B.pg B.l B.now { m with at_ := m.at_ + 1, st := m.st.dropLast.dropLast } 3 gv arg (m.st.dropLast.getLastD 0) (m.st.getLastD 0) else if t = 1 then actI B.pg B.l B.now { m with at_ := m.at_ + 1, st := m.st.dropLast } 3 gv arg (m.st.getLastD 0) 0 else actI B.pg B.l B.now { m with at_ := m.at_ + 1 } 3 gv arg 0 0)) := Hid.mk (fun t gv e1 e2 => by subst e1 e2; rfl)
 have HT := fun W => effect35_3 (w := W)
 have hgv1 : (effI 3).1 ≤ 2 ∧ (effI 3).2 ≤ 2 := effI_le2
 have ha3 := hF.reg (.inr rfl)
 obtain ⟨n, rfl⟩ : ∃ n : Nat, arg = (n : Int) := ⟨arg.toNat, by omega⟩
 have hn7 : n ≤ 7 := by omega
 obtain ⟨t, ht⟩ : ∃ t, t = (effI 3).1 := ⟨_, rfl⟩
 obtain ⟨gv, hgv⟩ : ∃ gv, gv = (effI 3).2 := ⟨_, rfl⟩
 have HO := Hid.mk (HO.out t gv ht hgv)
 rw [← ht, ← hgv] at HT hgv1
 obtain ⟨ht2, hg2⟩ := hgv1
 have HT := Hid.mk HT
 have HT2 := Hid.mk ht
 have HG2 := Hid.mk hgv
 have HL := Hid.mk hL
 clear c1 c2 c3 c4 ht hgv hx hF hL hG
 go_enter Tryz.func101, Tryz.ntmps101
 go_wp2_with fail
 go_region_held3 (fun V => V.cell? ⟨p, 1, none⟩ = some (.slice (some ⟨b, o, none⟩) B.pg.code.length d) ∧ V.cell? ⟨p, 7, none⟩ = some (Iv_N (m.at_ : Int)) ∧ V.cell? ⟨b, o + m.at_ * 2, none⟩ = some (.int .i64 3) ∧ V.cell? ⟨b, o + m.at_ * 2 + 1, none⟩ = some (.int .i64 (n : Int))) (first | exact SP.out _ (Kept.refl [] _).drew | exact SP.out _ ((Kept.refl [] _).alloc _).drew) (fail)
 obtain ⟨W2, e2⟩ : ∃ W2, (w.alloc (.cells #[.int .i64 3, .int .i64 (n : Int)] 108)).drew = W2 := ⟨_, rfl⟩
 rw [e2]
 have k2 : Kept [] w W2 := by rw [← e2]; exact ((Kept.refl [] _).alloc _).drew
 have hb2 : W2.heap[w.heap.size]? = some (.cells #[.int .i64 3, .int .i64 (n : Int)] 108) := by rw [← e2]; exact heap_alloc_new w _
 have h2 := h.keep k2
 have hpg : p ≠ w.heap.size := Nat.ne_of_lt (lt_of_block h.rs.box)
 clear e2 SP h
 generalize w.heap.size = g at *
 have c5 := h2.c_at
 have f5 := h2.rs.free 7
 have q3 : ((m.at_ + 1 : Nat) : Int) = (m.at_ : Int) + 1 := by omega
 obtain ⟨W3, e3⟩ : ∃ W3, W2.setCell ⟨p, 7, none⟩ (Iv_N ((m.at_ : Int) + 1)) = W3 := ⟨_, rfl⟩
 have h3 := h2.put_at (m.at_ + 1)
 rw [q3, e3] at h3
 have k3 : Kept [p] W2 W3 := by rw [← e3]; exact (Kept.refl [p] W2).setCell (.inl (by simp)) _
 have hb3 := k3.keeps hb2 (by simpa using Ne.symm hpg)
 obtain ⟨z0, z1⟩ := cells2_N hb3
 have HB := Hid.mk hb3
 have HPG := Hid.mk hpg
 have HM := Hid.mk h3
 obtain ⟨sv3, ev3, sn3, tm3, h3⟩ := h3
 obtain ⟨sa, sc, rfl, -, -⟩ := h3.st.form
 have c8 : W3.cell? ⟨p, 8, none⟩ = some (.slice sa m.st.length sc) := by
  have := h3.c_st
  rw [rowJ_length] at this
  exact this
 have q5 : IntKind.i64.wrap ((m.st.length : Int) - (t : Int)) = (m.st.length : Int) - (t : Int) := w64_small _ (by omega)
 have q7 : IntKind.i64.wrap ((m.st.length : Int) - (t : Int) + (gv : Int)) = (m.st.length : Int) - (t : Int) + (gv : Int) := w64_small _ (by omega)
 clear h2 h3 hb2 hb3 k2 k3 q3 hpg hat q1
 by_cases hlt : m.st.length < t
 ·have hI : (m.st.length : Int) < (t : Int) := by omega
  have HO3 := Hid.mk (HO.out.trans (if_pos (.inl hlt)))
  clear HO
  go_wp2_with (go_at_call 129; refine (HT.out _).mono ?_; rintro e w9 ⟨rfl, rfl⟩)
  go_ret2
  exact ⟨_, _, rfl, by rw [HO3.out]; exact ⟨rfl, rfl, _, HM.out⟩⟩
 by_cases hgt : 16 < m.st.length - t + gv
 ·have hI : ¬ (m.st.length : Int) < (t : Int) := by omega
  have hI2 : (16 : Int) < (m.st.length : Int) - (t : Int) + (gv : Int) := by omega
  have HO3 := Hid.mk (HO.out.trans (if_pos (.inr hgt)))
  clear HO
  go_wp2_with (go_at_call 129; refine (HT.out _).mono ?_; rintro e w9 ⟨rfl, rfl⟩)
  go_ret2
  exact ⟨_, _, rfl, by rw [HO3.out]; exact ⟨rfl, rfl, _, HM.out⟩⟩
 have hI : ¬ (m.st.length : Int) < (t : Int) := by omega
 have hI2 : ¬ (16 : Int) < (m.st.length : Int) - (t : Int) + (gv : Int) := by omega
 have HO3 := Hid.mk (HO.out.trans (if_neg (by omega)))
 clear HO
 obtain rfl : t = 1 := HT2.out
 obtain rfl : gv = 0 := HG2.out
 have HO4 := Hid.mk (HO3.out.trans ((if_neg (by omega)).trans (if_pos rfl)))
 have hne : m.st ≠ [] := fun e => hlt (by rw [e]; simp)
 have HPO := Hid.mk (pop36 HM.out hne (by show m.st.length ≤ 900; omega))
 have hl9 : m.st.dropLast.length ≤ 16 := by simp; omega
 clear hne
 dsimp only at HPO
 have HL9 := Hid.mk hl9
 clear hl9
 generalize m.st.getLastD 0 = x at *
 have HN7 := Hid.mk hn7
 go_wp2_with (first | (go_at_call 129; refine (HT.out _).mono ?_; rintro e w9 ⟨rfl, rfl⟩) | (go_at_call 130; refine HPO.out.mono ?_; rintro e w5 ⟨rfl, h5, k5⟩; have hb6 := k5.keeps HB.out (by simpa using Ne.symm HPG.out); have t0 := (cells2_N hb6).1; have t1 := (cells2_N hb6).2))
 have q8 : (0 : Int) ≤ (n : Int) := by omega
 have q9 : (n : Int) < 8 := by omega
 obtain ⟨sv4, ev4, sn4, tm4, h4⟩ := h5
 obtain ⟨old, hold⟩ : ∃ z, m.reg[n]? = some z := ⟨_, List.getElem?_eq_getElem (by have := h4.rs.r8; dsimp only at this; omega)⟩
 have s1 : w5.drew.cell? ⟨p, 9 + n, none⟩ = some (.int .i64 old) := h4.c_reg hold
 have s2 : w5.drew.frozen? ⟨p, 9 + n, none⟩ = false := h4.rs.free (9 + n)
 have s3 : w5.drew.cell? ⟨g, 1, none⟩ = some (.int .i64 (n : Int)) := t1
 have HW7 := Hid.mk ((h4.put_reg n hn7 x).keep (Kept.refl [] _).drew)
 have hb7 : (w5.setCell ⟨p, 9 + n, none⟩ (.int .i64 x)).drew.heap[g]? = some (.cells #[.int .i64 3, .int .i64 (n : Int)] 108) := (((Kept.refl [p] w5).setCell (p := ⟨p, 9 + n, none⟩) (.inl (by simp)) (.int .i64 x)).drew).keeps hb6 (by simpa using Ne.symm HPG.out)
 have HB7 := Hid.mk hb7
 clear h4 hb6 hb7 hold
 go_region
 have HW7 : Hid (FS B (w5.setCell ⟨p, 9 + n, none⟩ (.int .i64 x)).drew p { m with at_ := m.at_ + 1, st := m.st.dropLast, reg := m.reg.set n x } k sv4 ev4 sn4 tm4) := HW7
 generalize (w5.setCell ⟨p, 9 + n, none⟩ (.int .i64 x)).drew = W7 at *
 have h7 := HW7.out.keep (Kept.refl [] W7).drew
 obtain ⟨ea, ec, rfl, -, -⟩ := h7.rs.ev.form
 have hel : (rowE m.ev).length = m.ev.length := rowE_length _
 dsimp only at h7 HW7
 rw [hel] at h7 HW7
 have r1 := (cells2_N HB7.out).2
 have c17 : W7.drew.cell? ⟨p, 17, none⟩ = some (.slice ea m.ev.length ec) := h7.c_ev
 have r2 : W7.drew.cell? ⟨g, 1, none⟩ = some (.int .i64 (n : Int)) := r1
 obtain ⟨ad, c', w8, hrun, r3, r4, H8⟩ := h7.addEv (HL.out.1) ⟨n, x⟩
 have HM8 := Hid.mk H8
 dsimp only at hrun
 have hrun' : (Builtin.append_ #[27, 27] 27 #[.slice ea m.ev.length ec, .slice (some ⟨W7.heap.size, 0, none⟩) 1 1]).run Tryz.prog (W7.alloc (.cells #[.int .i64 (n : Int), .int .i64 x] 93)).drew = .ok (.slice ad (m.ev.length + 1) c') w8 := hrun
 have c18 : (W7.alloc (.cells #[.int .i64 (n : Int), .int .i64 x] 93)).drew.cell? ⟨p, 17, none⟩ = some (.slice ea m.ev.length ec) := (((Kept.refl [] W7).alloc (.cells #[.int .i64 (n : Int), .int .i64 x] 93)).drew).cell_eq HW7.out.c_ev
 clear h7 hrun H8 s1 s2 s3 hel t0 t1
 go_wp2_with fail
 go_region_law ((refine step_append_run 27 (.tmp 90) (.tmp 95) (by rfl) (by rfl) _ _ (by rfl) (by rfl) hrun' ?_))
 all_goals
  go_wp2_with fail
  go_ret2
  exact ⟨_, _, rfl, by rw [HO4.out, HG2.out]; exact ⟨rfl, rfl, HM8.out⟩⟩
end
end Go.Proofs.YtngnenbidpojeaaGreatDoor
