import Derived.Deep.RegionHeld3
import Derived.Deep.RegionLaw
import Derived.Test.YtngnenbidpojeaaGreatDoorT27
/-
 The document's machine: one, operation by operation.
-/
namespace Go.Proofs.YtngnenbidpojeaaGreatDoor
open Go.RowKit
set_option maxRecDepth 100000
set_option linter.unusedVariables false
section
variable {B : Bs} {w w' : World} {p : Nat} {m : Mc} {k : Nat} {sv ev sn tm : Value}
set_option maxHeartbeats 8000000 in
theorem one22_0 {arg : Int} (hG : B.Good) (h : FSt B w p m k) (hx : B.pg.code[m.at_]? = some ⟨0, arg⟩) (hF : Fit B.pg 0 arg) (hL : Lite m) (hst : m.st.length ≤ 16) : Calls Tryz.prog 101 #[.pointer (some ⟨p, 0, none⟩)] w fun e w' => Ret2 (OuF B p k (oneI B.pg B.l B.now m ⟨0, arg⟩)) e w' := by
 obtain ⟨sv, ev, sn, tm, h⟩ := h
 obtain ⟨b, o, d, c1, c2, c3⟩ := h.c_ins hG.ok hx
 have c4 := h.c_at
 have hat : m.at_ < B.pg.code.length := (List.getElem?_eq_some_iff.1 hx).1
 have hat2 : m.at_ < 200 := by have := hG.few; omega
 have q0 : (0 : Int) ≤ (m.at_ : Int) := by omega
 have q1 : (m.at_ : Int) < (B.pg.code.length : Int) := by omega
 dsimp only at c2 c3
 have SP : Hid (∀ V, Kept [] w V → V.cell? ⟨p, 1, none⟩ = some (.slice (some ⟨b, o, none⟩) B.pg.code.length d) ∧ V.cell? ⟨p, 7, none⟩ = some (Iv_N (m.at_ : Int)) ∧ V.cell? ⟨b, o + m.at_ * 2, none⟩ = some (.int .i64 0) ∧ V.cell? ⟨b, o + m.at_ * 2 + 1, none⟩ = some (.int .i64 arg)) := Hid.mk (fun V kk => ⟨kk.cell_eq c1, kk.cell_eq c4, kk.cell_eq c2, kk.cell_eq c3⟩)
 have HO : Hid (∀ t gv, t = (effI 0).1 → gv = (effI 0).2 → oneI B.pg B.l B.now m ⟨0, arg⟩ = (if m.st.length < t ∨ 16 < m.st.length - t + gv then .err 10 else if t = 2 then actI B.pg B.l B.now { m with at_ := m.at_ + 1, st := m.st.dropLast.dropLast } 0 gv arg (m.st.dropLast.getLastD 0) (m.st.getLastD 0) else if t = 1 then actI B.pg B.l B.now { m with at_ := m.at_ + 1, st := m.st.dropLast } 0 gv arg (m.st.getLastD 0) 0 else actI B.pg B.l B.now { m with at_ := m.at_ + 1 } 0 gv arg 0 0)) := Hid.mk (fun t gv e1 e2 => by subst e1 e2; rfl)
 have HT := fun W => effect35_0 (w := W)
 have hgv1 : (effI 0).1 ≤ 2 ∧ (effI 0).2 ≤ 2 := effI_le2
 obtain ⟨t, ht⟩ : ∃ t, t = (effI 0).1 := ⟨_, rfl⟩
 obtain ⟨gv, hgv⟩ : ∃ gv, gv = (effI 0).2 := ⟨_, rfl⟩
 have HO := Hid.mk (HO.out t gv ht hgv)
 rw [← ht, ← hgv] at HT hgv1
 obtain ⟨ht2, hg2⟩ := hgv1
 have HT := Hid.mk HT
 have HT2 := Hid.mk ht
 have HG2 := Hid.mk hgv
 have HL := Hid.mk hL
 clear c1 c2 c3 c4 ht hgv hx hF hL hG
 go_enter Tryz.func101, Tryz.ntmps101
 go_wp2_with fail
 go_region_held3 (fun V => V.cell? ⟨p, 1, none⟩ = some (.slice (some ⟨b, o, none⟩) B.pg.code.length d) ∧ V.cell? ⟨p, 7, none⟩ = some (Iv_N (m.at_ : Int)) ∧ V.cell? ⟨b, o + m.at_ * 2, none⟩ = some (.int .i64 0) ∧ V.cell? ⟨b, o + m.at_ * 2 + 1, none⟩ = some (.int .i64 arg)) (first | exact SP.out _ (Kept.refl [] _).drew | exact SP.out _ ((Kept.refl [] _).alloc _).drew) (fail)
 obtain ⟨W2, e2⟩ : ∃ W2, (w.alloc (.cells #[.int .i64 0, .int .i64 arg] 108)).drew = W2 := ⟨_, rfl⟩
 rw [e2]
 have k2 : Kept [] w W2 := by rw [← e2]; exact ((Kept.refl [] _).alloc _).drew
 have hb2 : W2.heap[w.heap.size]? = some (.cells #[.int .i64 0, .int .i64 arg] 108) := by rw [← e2]; exact heap_alloc_new w _
 have h2 := h.keep k2
 have hpg : p ≠ w.heap.size := Nat.ne_of_lt (lt_of_block h.rs.box)
 clear e2 SP h
 generalize w.heap.size = g at *
 have c5 := h2.c_at
 have f5 := h2.rs.free 7
 have q3 : ((m.at_ + 1 : Nat) : Int) = (m.at_ : Int) + 1 := by omega
 obtain ⟨W3, e3⟩ : ∃ W3, W2.setCell ⟨p, 7, none⟩ (Iv_N ((m.at_ : Int) + 1)) = W3 := ⟨_, rfl⟩
 have h3 := h2.put_at (m.at_ + 1)
 rw [q3, e3] at h3
 have k3 : Kept [p] W2 W3 := by rw [← e3]; exact (Kept.refl [p] W2).setCell (.inl (by simp)) _
 have hb3 := k3.keeps hb2 (by simpa using Ne.symm hpg)
 obtain ⟨z0, z1⟩ := cells2_N hb3
 have HB := Hid.mk hb3
 have HPG := Hid.mk hpg
 have HM := Hid.mk h3
 obtain ⟨sv3, ev3, sn3, tm3, h3⟩ := h3
 obtain ⟨sa, sc, rfl, -, -⟩ := h3.st.form
 have c8 : W3.cell? ⟨p, 8, none⟩ = some (.slice sa m.st.length sc) := by
  have := h3.c_st
  rw [rowJ_length] at this
  exact this
 have q5 : IntKind.i64.wrap ((m.st.length : Int) - (t : Int)) = (m.st.length : Int) - (t : Int) := w64_small _ (by omega)
 have q7 : IntKind.i64.wrap ((m.st.length : Int) - (t : Int) + (gv : Int)) = (m.st.length : Int) - (t : Int) + (gv : Int) := w64_small _ (by omega)
 clear h2 h3 hb2 hb3 k2 k3 q3 hpg hat q1
 by_cases hlt : m.st.length < t
 ·have hI : (m.st.length : Int) < (t : Int) := by omega
  have HO3 := Hid.mk (HO.out.trans (if_pos (.inl hlt)))
  clear HO
  go_wp2_with (go_at_call 129; refine (HT.out _).mono ?_; rintro e w9 ⟨rfl, rfl⟩)
  go_ret2
  exact ⟨_, _, rfl, by rw [HO3.out]; exact ⟨rfl, rfl, _, HM.out⟩⟩
 by_cases hgt : 16 < m.st.length - t + gv
 ·have hI : ¬ (m.st.length : Int) < (t : Int) := by omega
  have hI2 : (16 : Int) < (m.st.length : Int) - (t : Int) + (gv : Int) := by omega
  have HO3 := Hid.mk (HO.out.trans (if_pos (.inr hgt)))
  clear HO
  go_wp2_with (go_at_call 129; refine (HT.out _).mono ?_; rintro e w9 ⟨rfl, rfl⟩)
  go_ret2
  exact ⟨_, _, rfl, by rw [HO3.out]; exact ⟨rfl, rfl, _, HM.out⟩⟩
 have hI : ¬ (m.st.length : Int) < (t : Int) := by omega
 have hI2 : ¬ (16 : Int) < (m.st.length : Int) - (t : Int) + (gv : Int) := by omega
 have HO3 := Hid.mk (HO.out.trans (if_neg (by omega)))
 clear HO
 obtain rfl : t = 0 := HT2.out
 obtain rfl : gv = 0 := HG2.out
 have HO4 := Hid.mk (HO3.out.trans ((if_neg (by omega)).trans (if_neg (by omega))))
 have hl9 : m.st.length ≤ 16 := hst
 have HL9 := Hid.mk hl9
 clear hl9
 go_wp2_with (first | (go_at_call 129; refine (HT.out _).mono ?_; rintro e w9 ⟨rfl, rfl⟩))
 go_ret2
 exact ⟨_, _, rfl, by rw [HO4.out, HG2.out]; exact ⟨rfl, rfl, HM.out⟩⟩
set_option maxHeartbeats 8000000 in
theorem one22_21 {arg : Int} (hG : B.Good) (h : FSt B w p m k) (hx : B.pg.code[m.at_]? = some ⟨21, arg⟩) (hF : Fit B.pg 21 arg) (hL : Lite m) (hst : m.st.length ≤ 16) : Calls Tryz.prog 101 #[.pointer (some ⟨p, 0, none⟩)] w fun e w' => Ret2 (OuF B p k (oneI B.pg B.l B.now m ⟨21, arg⟩)) e w' := by
 obtain ⟨sv, ev, sn, tm, h⟩ := h
 obtain ⟨b, o, d, c1, c2, c3⟩ := h.c_ins hG.ok hx
 have c4 := h.c_at
 have hat : m.at_ < B.pg.code.length := (List.getElem?_eq_some_iff.1 hx).1
 have hat2 : m.at_ < 200 := by have := hG.few; omega
 have q0 : (0 : Int) ≤ (m.at_ : Int) := by omega
 have q1 : (m.at_ : Int) < (B.pg.code.length : Int) := by omega
 dsimp only at c2 c3
 have SP : Hid (∀ V, Kept [] w V → V.cell? ⟨p, 1, none⟩ = some (.slice (some ⟨b, o, none⟩) B.pg.code.length d) ∧ V.cell? ⟨p, 7, none⟩ = some (Iv_N (m.at_ : Int)) ∧ V.cell? ⟨b, o + m.at_ * 2, none⟩ = some (.int .i64 21) ∧ V.cell? ⟨b, o + m.at_ * 2 + 1, none⟩ = some (.int .i64 arg)) := Hid.mk (fun V kk => ⟨kk.cell_eq c1, kk.cell_eq c4, kk.cell_eq c2, kk.cell_eq c3⟩)
 have HO : Hid (∀ t gv, t = (effI 21).1 → gv = (effI 21).2 → oneI B.pg B.l B.now m ⟨21, arg⟩ = (if m.st.length < t ∨ 16 < m.st.length - t + gv then .err 10 else if t = 2 then actI B.pg B.l B.now { m with at_ := m.at_ + 1, st := m.st.dropLast.dropLast } 21 gv arg (m.st.dropLast.getLastD 0) (m.st.getLastD 0) else if t = 1 then actI B.pg B.l B.now { m with at_ := m.at_ + 1, st := m.st.dropLast } 21 gv arg (m.st.getLastD 0) 0 else actI B.pg B.l B.now { m with at_ := m.at_ + 1 } 21 gv arg 0 0)) := Hid.mk (fun t gv e1 e2 => by subst e1 e2; rfl)
 have HT := fun W => effect35_21 (w := W)
 have hgv1 : (effI 21).1 ≤ 2 ∧ (effI 21).2 ≤ 2 := effI_le2
 obtain ⟨t, ht⟩ : ∃ t, t = (effI 21).1 := ⟨_, rfl⟩
 obtain ⟨gv, hgv⟩ : ∃ gv, gv = (effI 21).2 := ⟨_, rfl⟩
 have HO := Hid.mk (HO.out t gv ht hgv)
 rw [← ht, ← hgv] at HT hgv1
 obtain ⟨ht2, hg2⟩ := hgv1
 have HT := Hid.mk HT
 have HT2 := Hid.mk ht
 have HG2 := Hid.mk hgv
 have HL := Hid.mk hL
 clear c1 c2 c3 c4 ht hgv hx hF hL hG
 go_enter Tryz.func101, Tryz.ntmps101
 go_wp2_with fail
 go_region_held3 (fun V => V.cell? ⟨p, 1, none⟩ = some (.slice (some ⟨b, o, none⟩) B.pg.code.length d) ∧ V.cell? ⟨p, 7, none⟩ = some (Iv_N (m.at_ : Int)) ∧ V.cell? ⟨b, o + m.at_ * 2, none⟩ = some (.int .i64 21) ∧ V.cell? ⟨b, o + m.at_ * 2 + 1, none⟩ = some (.int .i64 arg)) (first | exact SP.out _ (Kept.refl [] _).drew | exact SP.out _ ((Kept.refl [] _).alloc _).drew) (fail)
 obtain ⟨W2, e2⟩ : ∃ W2, (w.alloc (.cells #[.int .i64 21, .int .i64 arg] 108)).drew = W2 := ⟨_, rfl⟩
 rw [e2]
 have k2 : Kept [] w W2 := by rw [← e2]; exact ((Kept.refl [] _).alloc _).drew
 have hb2 : W2.heap[w.heap.size]? = some (.cells #[.int .i64 21, .int .i64 arg] 108) := by rw [← e2]; exact heap_alloc_new w _
 have h2 := h.keep k2
 have hpg : p ≠ w.heap.size := Nat.ne_of_lt (lt_of_block h.rs.box)
 clear e2 SP h
 generalize w.heap.size = g at *
 have c5 := h2.c_at
 have f5 := h2.rs.free 7
 have q3 : ((m.at_ + 1 : Nat) : Int) = (m.at_ : Int) + 1 := by omega
 obtain ⟨W3, e3⟩ : ∃ W3, W2.setCell ⟨p, 7, none⟩ (Iv_N ((m.at_ : Int) + 1)) = W3 := ⟨_, rfl⟩
 have h3 := h2.put_at (m.at_ + 1)
 rw [q3, e3] at h3
 have k3 : Kept [p] W2 W3 := by rw [← e3]; exact (Kept.refl [p] W2).setCell (.inl (by simp)) _
 have hb3 := k3.keeps hb2 (by simpa using Ne.symm hpg)
 obtain ⟨z0, z1⟩ := cells2_N hb3
 have HB := Hid.mk hb3
 have HPG := Hid.mk hpg
 have HM := Hid.mk h3
 obtain ⟨sv3, ev3, sn3, tm3, h3⟩ := h3
 obtain ⟨sa, sc, rfl, -, -⟩ := h3.st.form
 have c8 : W3.cell? ⟨p, 8, none⟩ = some (.slice sa m.st.length sc) := by
  have := h3.c_st
  rw [rowJ_length] at this
  exact this
 have q5 : IntKind.i64.wrap ((m.st.length : Int) - (t : Int)) = (m.st.length : Int) - (t : Int) := w64_small _ (by omega)
 have q7 : IntKind.i64.wrap ((m.st.length : Int) - (t : Int) + (gv : Int)) = (m.st.length : Int) - (t : Int) + (gv : Int) := w64_small _ (by omega)
 clear h2 h3 hb2 hb3 k2 k3 q3 hpg hat q1
 by_cases hlt : m.st.length < t
 ·have hI : (m.st.length : Int) < (t : Int) := by omega
  have HO3 := Hid.mk (HO.out.trans (if_pos (.inl hlt)))
  clear HO
  go_wp2_with (go_at_call 129; refine (HT.out _).mono ?_; rintro e w9 ⟨rfl, rfl⟩)
  go_ret2
  exact ⟨_, _, rfl, by rw [HO3.out]; exact ⟨rfl, rfl, _, HM.out⟩⟩
 by_cases hgt : 16 < m.st.length - t + gv
 ·have hI : ¬ (m.st.length : Int) < (t : Int) := by omega
  have hI2 : (16 : Int) < (m.st.length : Int) - (t : Int) + (gv : Int) := by omega
  have HO3 := Hid.mk (HO.out.trans (if_pos (.inr hgt)))
  clear HO
  go_wp2_with (go_at_call 129; refine (HT.out _).mono ?_; rintro e w9 ⟨rfl, rfl⟩)
  go_ret2
  exact ⟨_, _, rfl, by rw [HO3.out]; exact ⟨rfl, rfl, _, HM.out⟩⟩
 have hI : ¬ (m.st.length : Int) < (t : Int) := by omega
 have hI2 : ¬ (16 : Int) < (m.st.length : Int) - (t : Int) + (gv : Int) := by omega
 have HO3 := Hid.mk (HO.out.trans (if_neg (by omega)))
 clear HO
 obtain rfl : t = 0 := HT2.out
 obtain rfl : gv = 0 := HG2.out
 have HO4 := Hid.mk (HO3.out.trans ((if_neg (by omega)).trans (if_neg (by omega))))
 have hl9 : m.st.length ≤ 16 := hst
 have HL9 := Hid.mk hl9
 clear hl9
 go_wp2_with (first | (go_at_call 129; refine (HT.out _).mono ?_; rintro e w9 ⟨rfl, rfl⟩))
 go_ret2
 exact ⟨_, _, rfl, by rw [HO4.out, HG2.out]; exact ⟨rfl, rfl, _, HM.out⟩⟩
set_option maxHeartbeats 8000000 in
theorem one22_13 {arg : Int} (hG : B.Good) (h : FSt B w p m k) (hx : B.pg.code[m.at_]? = some ⟨13, arg⟩) (hF : Fit B.pg 13 arg) (hL : Lite m) (hst : m.st.length ≤ 16) : Calls Tryz.prog 101 #[.pointer (some ⟨p, 0, none⟩)] w fun e w' => Ret2 (OuF B p k (oneI B.pg B.l B.now m ⟨13, arg⟩)) e w' := by
 obtain ⟨sv, ev, sn, tm, h⟩ := h
 obtain ⟨b, o, d, c1, c2, c3⟩ := h.c_ins hG.ok hx
 have c4 := h.c_at
 have hat : m.at_ < B.pg.code.length := (List.getElem?_eq_some_iff.1 hx).1
 have hat2 : m.at_ < 200 := by have := hG.few; omega
 have q0 : (0 : Int) ≤ (m.at_ : Int) := by omega
 have q1 : (m.at_ : Int) < (B.pg.code.length : Int) := by omega
 dsimp only at c2 c3
 have SP : Hid (∀ V, Kept [] w V → V.cell? ⟨p, 1, none⟩ = some (.slice (some ⟨b, o, none⟩) B.pg.code.length d) ∧ V.cell? ⟨p, 7, none⟩ = some (Iv_N (m.at_ : Int)) ∧ V.cell? ⟨b, o + m.at_ * 2, none⟩ = some (.int .i64 13) ∧ V.cell? ⟨b, o + m.at_ * 2 + 1, none⟩ = some (.int .i64 arg)) := Hid.mk (fun V kk => ⟨kk.cell_eq c1, kk.cell_eq c4, kk.cell_eq c2, kk.cell_eq c3⟩)
 have HO : Hid (∀ t gv, t = (effI 13).1 → gv = (effI 13).2 → oneI B.pg B.l B.now m ⟨13, arg⟩ = (if m.st.length < t ∨ 16 < m.st.length - t + gv then .err 10 else if t = 2 then actI B.pg B.l B.now { m with at_ := m.at_ + 1, st := m.st.dropLast.dropLast } 13 gv arg (m.st.dropLast.getLastD 0) (m.st.getLastD 0) else if t = 1 then actI B.pg B.l B.now { m with at_ := m.at_ + 1, st := m.st.dropLast } 13 gv arg (m.st.getLastD 0) 0 else actI B.pg B.l B.now { m with at_ := m.at_ + 1 } 13 gv arg 0 0)) := Hid.mk (fun t gv e1 e2 => by subst e1 e2; rfl)
 have HT := fun W => effect35_13 (w := W)
 have hgv1 : (effI 13).1 ≤ 2 ∧ (effI 13).2 ≤ 2 := effI_le2
 obtain ⟨t, ht⟩ : ∃ t, t = (effI 13).1 := ⟨_, rfl⟩
 obtain ⟨gv, hgv⟩ : ∃ gv, gv = (effI 13).2 := ⟨_, rfl⟩
 have HO := Hid.mk (HO.out t gv ht hgv)
 rw [← ht, ← hgv] at HT hgv1
 obtain ⟨ht2, hg2⟩ := hgv1
 have HT := Hid.mk HT
 have HT2 := Hid.mk ht
 have HG2 := Hid.mk hgv
 have HL := Hid.mk hL
 clear c1 c2 c3 c4 ht hgv hx hF hL hG
 go_enter Tryz.func101, Tryz.ntmps101
 go_wp2_with fail
 go_region_held3 (fun V => V.cell? ⟨p, 1, none⟩ = some (.slice (some ⟨b, o, none⟩) B.pg.code.length d) ∧ V.cell? ⟨p, 7, none⟩ = some (Iv_N (m.at_ : Int)) ∧ V.cell? ⟨b, o + m.at_ * 2, none⟩ = some (.int .i64 13) ∧ V.cell? ⟨b, o + m.at_ * 2 + 1, none⟩ = some (.int .i64 arg)) (first | exact SP.out _ (Kept.refl [] _).drew | exact SP.out _ ((Kept.refl [] _).alloc _).drew) (fail)
 obtain ⟨W2, e2⟩ : ∃ W2, (w.alloc (.cells #[.int .i64 13, .int .i64 arg] 108)).drew = W2 := ⟨_, rfl⟩
 rw [e2]
 have k2 : Kept [] w W2 := by rw [← e2]; exact ((Kept.refl [] _).alloc _).drew
 have hb2 : W2.heap[w.heap.size]? = some (.cells #[.int .i64 13, .int .i64 arg] 108) := by rw [← e2]; exact heap_alloc_new w _
 have h2 := h.keep k2
 have hpg : p ≠ w.heap.size := Nat.ne_of_lt (lt_of_block h.rs.box)
 clear e2 SP h
 generalize w.heap.size = g at *
 have c5 := h2.c_at
 have f5 := h2.rs.free 7
 have q3 : ((m.at_ + 1 : Nat) : Int) = (m.at_ : Int) + 1 := by omega
 obtain ⟨W3, e3⟩ : ∃ W3, W2.setCell ⟨p, 7, none⟩ (Iv_N ((m.at_ : Int) + 1)) = W3 := ⟨_, rfl⟩
 have h3 := h2.put_at (m.at_ + 1)
 rw [q3, e3] at h3
 have k3 : Kept [p] W2 W3 := by rw [← e3]; exact (Kept.refl [p] W2).setCell (.inl (by simp)) _
 have hb3 := k3.keeps hb2 (by simpa using Ne.symm hpg)
 obtain ⟨z0, z1⟩ := cells2_N hb3
 have HB := Hid.mk hb3
 have HPG := Hid.mk hpg
 have HM := Hid.mk h3
 obtain ⟨sv3, ev3, sn3, tm3, h3⟩ := h3
 obtain ⟨sa, sc, rfl, -, -⟩ := h3.st.form
 have c8 : W3.cell? ⟨p, 8, none⟩ = some (.slice sa m.st.length sc) := by
  have := h3.c_st
  rw [rowJ_length] at this
  exact this
 have q5 : IntKind.i64.wrap ((m.st.length : Int) - (t : Int)) = (m.st.length : Int) - (t : Int) := w64_small _ (by omega)
 have q7 : IntKind.i64.wrap ((m.st.length : Int) - (t : Int) + (gv : Int)) = (m.st.length : Int) - (t : Int) + (gv : Int) := w64_small _ (by omega)
 clear h2 h3 hb2 hb3 k2 k3 q3 hpg hat q1
 by_cases hlt : m.st.length < t
 ·have hI : (m.st.length : Int) < (t : Int) := by omega
  have HO3 := Hid.mk (HO.out.trans (if_pos (.inl hlt)))
  clear HO
  go_wp2_with (go_at_call 129; refine (HT.out _).mono ?_; rintro e w9 ⟨rfl, rfl⟩)
  go_ret2
  exact ⟨_, _, rfl, by rw [HO3.out]; exact ⟨rfl, rfl, _, HM.out⟩⟩
 by_cases hgt : 16 < m.st.length - t + gv
 ·have hI : ¬ (m.st.length : Int) < (t : Int) := by omega
  have hI2 : (16 : Int) < (m.st.length : Int) - (t : Int) + (gv : Int) := by omega
  have HO3 := Hid.mk (HO.out.trans (if_pos (.inr hgt)))
  clear HO
  go_wp2_with (go_at_call 129; refine (HT.out _).mono ?_; rintro e w9 ⟨rfl, rfl⟩)
  go_ret2
  exact ⟨_, _, rfl, by rw [HO3.out]; exact ⟨rfl, rfl, _, HM.out⟩⟩
 have hI : ¬ (m.st.length : Int) < (t : Int) := by omega
 have hI2 : ¬ (16 : Int) < (m.st.length : Int) - (t : Int) + (gv : Int) := by omega
 have HO3 := Hid.mk (HO.out.trans (if_neg (by omega)))
 clear HO
 obtain rfl : t = 1 := HT2.out
 obtain rfl : gv = 0 := HG2.out
 have HO4 := Hid.mk (HO3.out.trans ((if_neg (by omega)).trans (if_pos rfl)))
 have hne : m.st ≠ [] := fun e => hlt (by rw [e]; simp)
 have HPO := Hid.mk (pop36 HM.out hne (by show m.st.length ≤ 900; omega))
 have hl9 : m.st.dropLast.length ≤ 16 := by simp; omega
 clear hne
 dsimp only at HPO
 have HL9 := Hid.mk hl9
 clear hl9
 generalize m.st.getLastD 0 = x at *
 go_wp2_with (first | (go_at_call 129; refine (HT.out _).mono ?_; rintro e w9 ⟨rfl, rfl⟩) | (go_at_call 130; refine HPO.out.mono ?_; rintro e w5 ⟨rfl, h5, k5⟩; have hb6 := k5.keeps HB.out (by simpa using Ne.symm HPG.out); have t0 := (cells2_N hb6).1; have t1 := (cells2_N hb6).2))
 go_ret2
 exact ⟨_, _, rfl, by rw [HO4.out, HG2.out]; exact ⟨rfl, rfl, h5⟩⟩
set_option maxHeartbeats 8000000 in
theorem one22_12 {arg : Int} (hG : B.Good) (h : FSt B w p m k) (hx : B.pg.code[m.at_]? = some ⟨12, arg⟩) (hF : Fit B.pg 12 arg) (hL : Lite m) (hst : m.st.length ≤ 16) : Calls Tryz.prog 101 #[.pointer (some ⟨p, 0, none⟩)] w fun e w' => Ret2 (OuF B p k (oneI B.pg B.l B.now m ⟨12, arg⟩)) e w' := by
 obtain ⟨sv, ev, sn, tm, h⟩ := h
 obtain ⟨b, o, d, c1, c2, c3⟩ := h.c_ins hG.ok hx
 have c4 := h.c_at
 have hat : m.at_ < B.pg.code.length := (List.getElem?_eq_some_iff.1 hx).1
 have hat2 : m.at_ < 200 := by have := hG.few; omega
 have q0 : (0 : Int) ≤ (m.at_ : Int) := by omega
 have q1 : (m.at_ : Int) < (B.pg.code.length : Int) := by omega
 dsimp only at c2 c3
 have SP : Hid (∀ V, Kept [] w V → V.cell? ⟨p, 1, none⟩ = some (.slice (some ⟨b, o, none⟩) B.pg.code.length d) ∧ V.cell? ⟨p, 7, none⟩ = some (Iv_N (m.at_ : Int)) ∧ V.cell? ⟨b, o + m.at_ * 2, none⟩ = some (.int .i64 12) ∧ V.cell? ⟨b, o + m.at_ * 2 + 1, none⟩ = some (.int .i64 arg)) := Hid.mk (fun V kk => ⟨kk.cell_eq c1, kk.cell_eq c4, kk.cell_eq c2, kk.cell_eq c3⟩)
 have HO : Hid (∀ t gv, t = (effI 12).1 → gv = (effI 12).2 → oneI B.pg B.l B.now m ⟨12, arg⟩ = (if m.st.length < t ∨ 16 < m.st.length - t + gv then .err 10 else if t = 2 then actI B.pg B.l B.now { m with at_ := m.at_ + 1, st := m.st.dropLast.dropLast } 12 gv arg (m.st.dropLast.getLastD 0) (m.st.getLastD 0) else if t = 1 then actI B.pg B.l B.now { m with at_ := m.at_ + 1, st := m.st.dropLast } 12 gv arg (m.st.getLastD 0) 0 else actI B.pg B.l B.now { m with at_ := m.at_ + 1 } 12 gv arg 0 0)) := Hid.mk (fun t gv e1 e2 => by subst e1 e2; rfl)
 have HT := fun W => effect35_12 (w := W)
 have hgv1 : (effI 12).1 ≤ 2 ∧ (effI 12).2 ≤ 2 := effI_le2
 obtain ⟨t, ht⟩ : ∃ t, t = (effI 12).1 := ⟨_, rfl⟩
 obtain ⟨gv, hgv⟩ : ∃ gv, gv = (effI 12).2 := ⟨_, rfl⟩
 have HO := Hid.mk (HO.out t gv ht hgv)
 rw [← ht, ← hgv] at HT hgv1
 obtain ⟨ht2, hg2⟩ := hgv1
 have HT := Hid.mk HT
 have HT2 := Hid.mk ht
 have HG2 := Hid.mk hgv
 have HL := Hid.mk hL
 clear c1 c2 c3 c4 ht hgv hx hF hL hG
 go_enter Tryz.func101, Tryz.ntmps101
 go_wp2_with fail
 go_region_held3 (fun V => V.cell? ⟨p, 1, none⟩ = some (.slice (some ⟨b, o, none⟩) B.pg.code.length d) ∧ V.cell? ⟨p, 7, none⟩ = some (Iv_N (m.at_ : Int)) ∧ V.cell? ⟨b, o + m.at_ * 2, none⟩ = some (.int .i64 12) ∧ V.cell? ⟨b, o + m.at_ * 2 + 1, none⟩ = some (.int .i64 arg)) (first | exact SP.out _ (Kept.refl [] _).drew | exact SP.out _ ((Kept.refl [] _).alloc _).drew) (fail)
 obtain ⟨W2, e2⟩ : ∃ W2, (w.alloc (.cells #[.int .i64 12, .int .i64 arg] 108)).drew = W2 := ⟨_, rfl⟩
 rw [e2]
 have k2 : Kept [] w W2 := by rw [← e2]; exact ((Kept.refl [] _).alloc _).drew
 have hb2 : W2.heap[w.heap.size]? = some (.cells #[.int .i64 12, .int .i64 arg] 108) := by rw [← e2]; exact heap_alloc_new w _
 have h2 := h.keep k2
 have hpg : p ≠ w.heap.size := Nat.ne_of_lt (lt_of_block h.rs.box)
 clear e2 SP h
 generalize w.heap.size = g at *
 have c5 := h2.c_at
 have f5 := h2.rs.free 7
 have q3 : ((m.at_ + 1 : Nat) : Int) = (m.at_ : Int) + 1 := by omega
 obtain ⟨W3, e3⟩ : ∃ W3, W2.setCell ⟨p, 7, none⟩ (Iv_N ((m.at_ : Int) + 1)) = W3 := ⟨_, rfl⟩
 have h3 := h2.put_at (m.at_ + 1)
 rw [q3, e3] at h3
 have k3 : Kept [p] W2 W3 := by rw [← e3]; exact (Kept.refl [p] W2).setCell (.inl (by simp)) _
 have hb3 := k3.keeps hb2 (by simpa using Ne.symm hpg)
 obtain ⟨z0, z1⟩ := cells2_N hb3
 have HB := Hid.mk hb3
 have HPG := Hid.mk hpg
 have HM := Hid.mk h3
 obtain ⟨sv3, ev3, sn3, tm3, h3⟩ := h3
 obtain ⟨sa, sc, rfl, -, -⟩ := h3.st.form
 have c8 : W3.cell? ⟨p, 8, none⟩ = some (.slice sa m.st.length sc) := by
  have := h3.c_st
  rw [rowJ_length] at this
  exact this
 have q5 : IntKind.i64.wrap ((m.st.length : Int) - (t : Int)) = (m.st.length : Int) - (t : Int) := w64_small _ (by omega)
 have q7 : IntKind.i64.wrap ((m.st.length : Int) - (t : Int) + (gv : Int)) = (m.st.length : Int) - (t : Int) + (gv : Int) := w64_small _ (by omega)
 clear h2 h3 hb2 hb3 k2 k3 q3 hpg hat q1
 by_cases hlt : m.st.length < t
 ·have hI : (m.st.length : Int) < (t : Int) := by omega
  have HO3 := Hid.mk (HO.out.trans (if_pos (.inl hlt)))
  clear HO
  go_wp2_with (go_at_call 129; refine (HT.out _).mono ?_; rintro e w9 ⟨rfl, rfl⟩)
  go_ret2
  exact ⟨_, _, rfl, by rw [HO3.out]; exact ⟨rfl, rfl, _, HM.out⟩⟩
 by_cases hgt : 16 < m.st.length - t + gv
 ·have hI : ¬ (m.st.length : Int) < (t : Int) := by omega
  have hI2 : (16 : Int) < (m.st.length : Int) - (t : Int) + (gv : Int) := by omega
  have HO3 := Hid.mk (HO.out.trans (if_pos (.inr hgt)))
  clear HO
  go_wp2_with (go_at_call 129; refine (HT.out _).mono ?_; rintro e w9 ⟨rfl, rfl⟩)
  go_ret2
  exact ⟨_, _, rfl, by rw [HO3.out]; exact ⟨rfl, rfl, _, HM.out⟩⟩
 have hI : ¬ (m.st.length : Int) < (t : Int) := by omega
 have hI2 : ¬ (16 : Int) < (m.st.length : Int) - (t : Int) + (gv : Int) := by omega
 have HO3 := Hid.mk (HO.out.trans (if_neg (by omega)))
 clear HO
 obtain rfl : t = 1 := HT2.out
 obtain rfl : gv = 2 := HG2.out
 have HO4 := Hid.mk (HO3.out.trans ((if_neg (by omega)).trans (if_pos rfl)))
 have hne : m.st ≠ [] := fun e => hlt (by rw [e]; simp)
 have HPO := Hid.mk (pop36 HM.out hne (by show m.st.length ≤ 900; omega))
 have hl9 : m.st.dropLast.length ≤ 16 := by simp; omega
 clear hne
 dsimp only at HPO
 have HL9 := Hid.mk hl9
 clear hl9
 generalize m.st.getLastD 0 = x at *
 go_wp2_with (first | (go_at_call 129; refine (HT.out _).mono ?_; rintro e w9 ⟨rfl, rfl⟩) | (go_at_call 130; refine HPO.out.mono ?_; rintro e w5 ⟨rfl, h5, k5⟩; have hb6 := k5.keeps HB.out (by simpa using Ne.symm HPG.out); have t0 := (cells2_N hb6).1; have t1 := (cells2_N hb6).2; have HPa := Hid.mk (push37 h5 x (by show m.st.dropLast.length ≤ 900; have := HL9.out; omega))) | (go_at_call 131; with_reducible refine HPa.out.mono ?_; rintro e w7 ⟨rfl, h7⟩) | (go_at_call 131; refine (push37 h7 x (by show (m.st.dropLast ++ [x]).length ≤ 900; have := HL9.out; simp; omega)).mono ?_; rintro e w8 ⟨rfl, h8⟩))
 go_ret2
 have h8 : FSt B _ p { m with at_ := m.at_ + 1, st := (m.st.dropLast ++ [x]) ++ [x] } k := h8
 rw [List.append_assoc] at h8
 exact ⟨_, _, rfl, by rw [HO4.out, HG2.out]; exact ⟨rfl, rfl, h8⟩⟩
set_option maxHeartbeats 8000000 in
theorem one22_14 {arg : Int} (hG : B.Good) (h : FSt B w p m k) (hx : B.pg.code[m.at_]? = some ⟨14, arg⟩) (hF : Fit B.pg 14 arg) (hL : Lite m) (hst : m.st.length ≤ 16) : Calls Tryz.prog 101 #[.pointer (some ⟨p, 0, none⟩)] w fun e w' => Ret2 (OuF B p k (oneI B.pg B.l B.now m ⟨14, arg⟩)) e w' := by
 obtain ⟨sv, ev, sn, tm, h⟩ := h
 obtain ⟨b, o, d, c1, c2, c3⟩ := h.c_ins hG.ok hx
 have c4 := h.c_at
 have hat : m.at_ < B.pg.code.length := (List.getElem?_eq_some_iff.1 hx).1
 have hat2 : m.at_ < 200 := by have := hG.few; omega
 have q0 : (0 : Int) ≤ (m.at_ : Int) := by omega
 have q1 : (m.at_ : Int) < (B.pg.code.length : Int) := by omega
 dsimp only at c2 c3
 have SP : Hid (∀ V, Kept [] w V → V.cell? ⟨p, 1, none⟩ = some (.slice (some ⟨b, o, none⟩) B.pg.code.length d) ∧ V.cell? ⟨p, 7, none⟩ = some (Iv_N (m.at_ : Int)) ∧ V.cell? ⟨b, o + m.at_ * 2, none⟩ = some (.int .i64 14) ∧ V.cell? ⟨b, o + m.at_ * 2 + 1, none⟩ = some (.int .i64 arg)) := Hid.mk (fun V kk => ⟨kk.cell_eq c1, kk.cell_eq c4, kk.cell_eq c2, kk.cell_eq c3⟩)
 have HO : Hid (∀ t gv, t = (effI 14).1 → gv = (effI 14).2 → oneI B.pg B.l B.now m ⟨14, arg⟩ = (if m.st.length < t ∨ 16 < m.st.length - t + gv then .err 10 else if t = 2 then actI B.pg B.l B.now { m with at_ := m.at_ + 1, st := m.st.dropLast.dropLast } 14 gv arg (m.st.dropLast.getLastD 0) (m.st.getLastD 0) else if t = 1 then actI B.pg B.l B.now { m with at_ := m.at_ + 1, st := m.st.dropLast } 14 gv arg (m.st.getLastD 0) 0 else actI B.pg B.l B.now { m with at_ := m.at_ + 1 } 14 gv arg 0 0)) := Hid.mk (fun t gv e1 e2 => by subst e1 e2; rfl)
 have HT := fun W => effect35_14 (w := W)
 have hgv1 : (effI 14).1 ≤ 2 ∧ (effI 14).2 ≤ 2 := effI_le2
 obtain ⟨t, ht⟩ : ∃ t, t = (effI 14).1 := ⟨_, rfl⟩
 obtain ⟨gv, hgv⟩ : ∃ gv, gv = (effI 14).2 := ⟨_, rfl⟩
 have HO := Hid.mk (HO.out t gv ht hgv)
 rw [← ht, ← hgv] at HT hgv1
 obtain ⟨ht2, hg2⟩ := hgv1
 have HT := Hid.mk HT
 have HT2 := Hid.mk ht
 have HG2 := Hid.mk hgv
 have HL := Hid.mk hL
 clear c1 c2 c3 c4 ht hgv hx hF hL hG
 go_enter Tryz.func101, Tryz.ntmps101
 go_wp2_with fail
 go_region_held3 (fun V => V.cell? ⟨p, 1, none⟩ = some (.slice (some ⟨b, o, none⟩) B.pg.code.length d) ∧ V.cell? ⟨p, 7, none⟩ = some (Iv_N (m.at_ : Int)) ∧ V.cell? ⟨b, o + m.at_ * 2, none⟩ = some (.int .i64 14) ∧ V.cell? ⟨b, o + m.at_ * 2 + 1, none⟩ = some (.int .i64 arg)) (first | exact SP.out _ (Kept.refl [] _).drew | exact SP.out _ ((Kept.refl [] _).alloc _).drew) (fail)
 obtain ⟨W2, e2⟩ : ∃ W2, (w.alloc (.cells #[.int .i64 14, .int .i64 arg] 108)).drew = W2 := ⟨_, rfl⟩
 rw [e2]
 have k2 : Kept [] w W2 := by rw [← e2]; exact ((Kept.refl [] _).alloc _).drew
 have hb2 : W2.heap[w.heap.size]? = some (.cells #[.int .i64 14, .int .i64 arg] 108) := by rw [← e2]; exact heap_alloc_new w _
 have h2 := h.keep k2
 have hpg : p ≠ w.heap.size := Nat.ne_of_lt (lt_of_block h.rs.box)
 clear e2 SP h
 generalize w.heap.size = g at *
 have c5 := h2.c_at
 have f5 := h2.rs.free 7
 have q3 : ((m.at_ + 1 : Nat) : Int) = (m.at_ : Int) + 1 := by omega
 obtain ⟨W3, e3⟩ : ∃ W3, W2.setCell ⟨p, 7, none⟩ (Iv_N ((m.at_ : Int) + 1)) = W3 := ⟨_, rfl⟩
 have h3 := h2.put_at (m.at_ + 1)
 rw [q3, e3] at h3
 have k3 : Kept [p] W2 W3 := by rw [← e3]; exact (Kept.refl [p] W2).setCell (.inl (by simp)) _
 have hb3 := k3.keeps hb2 (by simpa using Ne.symm hpg)
 obtain ⟨z0, z1⟩ := cells2_N hb3
 have HB := Hid.mk hb3
 have HPG := Hid.mk hpg
 have HM := Hid.mk h3
 obtain ⟨sv3, ev3, sn3, tm3, h3⟩ := h3
 obtain ⟨sa, sc, rfl, -, -⟩ := h3.st.form
 have c8 : W3.cell? ⟨p, 8, none⟩ = some (.slice sa m.st.length sc) := by
  have := h3.c_st
  rw [rowJ_length] at this
  exact this
 have q5 : IntKind.i64.wrap ((m.st.length : Int) - (t : Int)) = (m.st.length : Int) - (t : Int) := w64_small _ (by omega)
 have q7 : IntKind.i64.wrap ((m.st.length : Int) - (t : Int) + (gv : Int)) = (m.st.length : Int) - (t : Int) + (gv : Int) := w64_small _ (by omega)
 clear h2 h3 hb2 hb3 k2 k3 q3 hpg hat q1
 by_cases hlt : m.st.length < t
 ·have hI : (m.st.length : Int) < (t : Int) := by omega
  have HO3 := Hid.mk (HO.out.trans (if_pos (.inl hlt)))
  clear HO
  go_wp2_with (go_at_call 129; refine (HT.out _).mono ?_; rintro e w9 ⟨rfl, rfl⟩)
  go_ret2
  exact ⟨_, _, rfl, by rw [HO3.out]; exact ⟨rfl, rfl, _, HM.out⟩⟩
 by_cases hgt : 16 < m.st.length - t + gv
 ·have hI : ¬ (m.st.length : Int) < (t : Int) := by omega
  have hI2 : (16 : Int) < (m.st.length : Int) - (t : Int) + (gv : Int) := by omega
  have HO3 := Hid.mk (HO.out.trans (if_pos (.inr hgt)))
  clear HO
  go_wp2_with (go_at_call 129; refine (HT.out _).mono ?_; rintro e w9 ⟨rfl, rfl⟩)
  go_ret2
  exact ⟨_, _, rfl, by rw [HO3.out]; exact ⟨rfl, rfl, _, HM.out⟩⟩
 have hI : ¬ (m.st.length : Int) < (t : Int) := by omega
 have hI2 : ¬ (16 : Int) < (m.st.length : Int) - (t : Int) + (gv : Int) := by omega
 have HO3 := Hid.mk (HO.out.trans (if_neg (by omega)))
 clear HO
 obtain rfl : t = 2 := HT2.out
 obtain rfl : gv = 2 := HG2.out
 have HO4 := Hid.mk (HO3.out.trans (if_pos rfl))
 have hne : m.st ≠ [] := fun e => hlt (by rw [e]; simp)
 have hdl : m.st.dropLast.length = m.st.length - 1 := by simp
 have hne2 : m.st.dropLast ≠ [] := fun e => by rw [e] at hdl; simp at hdl; omega
 have HPO := Hid.mk (pop36 HM.out hne (by show m.st.length ≤ 900; omega))
 have HP2 : Hid (∀ W, FSt B W p { m with at_ := m.at_ + 1, st := m.st.dropLast } k → Calls Tryz.prog 130 #[.pointer (some ⟨p, 0, none⟩)] W fun e w' => e = .returned (.int .i64 (m.st.dropLast.getLastD 0)) ∧ FSt B w' p { m with at_ := m.at_ + 1, st := m.st.dropLast.dropLast } k ∧ Kept [p] W w') := Hid.mk (fun W hW => pop36 hW hne2 (by show m.st.dropLast.length ≤ 900; omega))
 have hl9 : m.st.dropLast.dropLast.length ≤ 16 := by simp; omega
 clear hne hne2 hdl
 dsimp only at HPO
 have HL9 := Hid.mk hl9
 clear hl9
 generalize m.st.getLastD 0 = y at *
 generalize m.st.dropLast.getLastD 0 = x at *
 go_wp2_with (first | (go_at_call 129; refine (HT.out _).mono ?_; rintro e w9 ⟨rfl, rfl⟩) | (go_at_call 130; with_reducible refine HPO.out.mono ?_; rintro e w5 ⟨rfl, h5, k5⟩) | (go_at_call 130; refine (HP2.out w5 h5).mono ?_; rintro e w6 ⟨rfl, h6, k6⟩; have hb6 := k6.keeps (k5.keeps HB.out (by simpa using Ne.symm HPG.out)) (by simpa using Ne.symm HPG.out); have t0 := (cells2_N hb6).1; have t1 := (cells2_N hb6).2; have HPa := Hid.mk (push37 h6 y (by show m.st.dropLast.dropLast.length ≤ 900; have := HL9.out; omega))) | (go_at_call 131; with_reducible refine HPa.out.mono ?_; rintro e w7 ⟨rfl, h7⟩) | (go_at_call 131; refine (push37 h7 x (by show (m.st.dropLast.dropLast ++ [y]).length ≤ 900; have := HL9.out; simp; omega)).mono ?_; rintro e w8 ⟨rfl, h8⟩))
 go_ret2
 have h8 : FSt B _ p { m with at_ := m.at_ + 1, st := (m.st.dropLast.dropLast ++ [y]) ++ [x] } k := h8
 rw [List.append_assoc] at h8
 exact ⟨_, _, rfl, by rw [HO4.out, HG2.out]; exact ⟨rfl, rfl, h8⟩⟩
end
end Go.Proofs.YtngnenbidpojeaaGreatDoor
