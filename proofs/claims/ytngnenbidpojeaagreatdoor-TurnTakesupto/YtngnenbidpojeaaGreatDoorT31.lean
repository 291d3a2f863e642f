import Derived.Deep.RegionHeld3
import Derived.Deep.RegionLaw
import Derived.Test.YtngnenbidpojeaaGreatDoorT18
import Derived.Test.YtngnenbidpojeaaGreatDoorT27
import Derived.Test.YtngnenbidpojeaaGreatDoorT28
import Derived.Test.YtngnenbidpojeaaGreatDoorT29
import Derived.Test.YtngnenbidpojeaaGreatDoorT30
/-
 The document's machine: one, operation by operation.
-/
namespace Go.Proofs.YtngnenbidpojeaaGreatDoor
open Go.RowKit
set_option maxRecDepth 100000
set_option linter.unusedVariables false
section
variable {B : Bs} {w w' : World} {p : Nat} {m : Mc} {k : Nat} {sv ev sn tm : Value}
set_option maxHeartbeats 8000000 in
theorem one22_17 {arg : Int} (hG : B.Good) (h : FSt B w p m k) (hx : B.pg.code[m.at_]? = some ⟨17, arg⟩) (hF : Fit B.pg 17 arg) (hL : Lite m) (hst : m.st.length ≤ 16) (hx9 : I64 (m.st.dropLast.getLastD 0)) : Calls Tryz.prog 101 #[.pointer (some ⟨p, 0, none⟩)] w fun e w' => Ret2 (OuF B p k (oneI B.pg B.l B.now m ⟨17, arg⟩)) e w' := by
 obtain ⟨sv, ev, sn, tm, h⟩ := h
 obtain ⟨b, o, d, c1, c2, c3⟩ := h.c_ins hG.ok hx
 have c4 := h.c_at
 have hat : m.at_ < B.pg.code.length := (List.getElem?_eq_some_iff.1 hx).1
 have hat2 : m.at_ < 200 := by have := hG.few; omega
 have q0 : (0 : Int) ≤ (m.at_ : Int) := by omega
 have q1 : (m.at_ : Int) < (B.pg.code.length : Int) := by omega
 dsimp only at c2 c3
 have SP : Hid (∀ V, Kept [] w V → V.cell? ⟨p, 1, none⟩ = some (.slice (some ⟨b, o, none⟩) B.pg.code.length d) ∧ V.cell? ⟨p, 7, none⟩ = some (Iv_N (m.at_ : Int)) ∧ V.cell? ⟨b, o + m.at_ * 2, none⟩ = some (.int .i64 17) ∧ V.cell? ⟨b, o + m.at_ * 2 + 1, none⟩ = some (.int .i64 arg)) := Hid.mk (fun V kk => ⟨kk.cell_eq c1, kk.cell_eq c4, kk.cell_eq c2, kk.cell_eq c3⟩)
 have HO : Hid (∀ t gv, t = (effI 17).1 → gv = (effI 17).2 → oneI B.pg B.l B.now m ⟨17, arg⟩ = (if m.st.length < t ∨ 16 < m.st.length - t + gv then .err 10 else if t = 2 then actI B.pg B.l B.now { m with at_ := m.at_ + 1, st := m.st.dropLast.dropLast } 17 gv arg (m.st.dropLast.getLastD 0) (m.st.getLastD 0) else if t = 1 then actI B.pg B.l B.now { m with at_ := m.at_ + 1, st := m.st.dropLast } 17 gv arg (m.st.getLastD 0) 0 else actI B.pg B.l B.now { m with at_ := m.at_ + 1 } 17 gv arg 0 0)) := Hid.mk (fun t gv e1 e2 => by subst e1 e2; rfl)
 have HT := fun W => effect35_17 (w := W)
 have hgv1 : (effI 17).1 ≤ 2 ∧ (effI 17).2 ≤ 2 := effI_le2
 have HU : Hid (∀ gv, gv = (effI 17).2 → ∀ (W : World) (m' : Mc) (x y : Int), FSt B W p m' k → Lite m' → I64 x → Calls Tryz.prog 132 #[.pointer (some ⟨p, 0, none⟩), .agg #[.int .i64 17, .int .i64 arg], .int .i64 x, .int .i64 y] W fun e w' => Ret2 (OuF B p k (actI B.pg B.l B.now m' 17 gv arg x y)) e w') := Hid.mk (fun gv e W m' x y h hl hx => by subst e; exact out38_17a hG h hF x y hl hx)
 obtain ⟨t, ht⟩ : ∃ t, t = (effI 17).1 := ⟨_, rfl⟩
 obtain ⟨gv, hgv⟩ : ∃ gv, gv = (effI 17).2 := ⟨_, rfl⟩
 have HO := Hid.mk (HO.out t gv ht hgv)
 rw [← ht, ← hgv] at HT hgv1
 obtain ⟨ht2, hg2⟩ := hgv1
 have HT := Hid.mk HT
 have HT2 := Hid.mk ht
 have HG2 := Hid.mk hgv
 have HL := Hid.mk hL
 clear c1 c2 c3 c4 ht hgv hx hF hL hG
 go_enter Tryz.func101, Tryz.ntmps101
 go_wp2_with fail
 go_region_held3 (fun V => V.cell? ⟨p, 1, none⟩ = some (.slice (some ⟨b, o, none⟩) B.pg.code.length d) ∧ V.cell? ⟨p, 7, none⟩ = some (Iv_N (m.at_ : Int)) ∧ V.cell? ⟨b, o + m.at_ * 2, none⟩ = some (.int .i64 17) ∧ V.cell? ⟨b, o + m.at_ * 2 + 1, none⟩ = some (.int .i64 arg)) (first | exact SP.out _ (Kept.refl [] _).drew | exact SP.out _ ((Kept.refl [] _).alloc _).drew) (fail)
 obtain ⟨W2, e2⟩ : ∃ W2, (w.alloc (.cells #[.int .i64 17, .int .i64 arg] 108)).drew = W2 := ⟨_, rfl⟩
 rw [e2]
 have k2 : Kept [] w W2 := by rw [← e2]; exact ((Kept.refl [] _).alloc _).drew
 have hb2 : W2.heap[w.heap.size]? = some (.cells #[.int .i64 17, .int .i64 arg] 108) := by rw [← e2]; exact heap_alloc_new w _
 have h2 := h.keep k2
 have hpg : p ≠ w.heap.size := Nat.ne_of_lt (lt_of_block h.rs.box)
 clear e2 SP h
 generalize w.heap.size = g at *
 have c5 := h2.c_at
 have f5 := h2.rs.free 7
 have q3 : ((m.at_ + 1 : Nat) : Int) = (m.at_ : Int) + 1 := by omega
 obtain ⟨W3, e3⟩ : ∃ W3, W2.setCell ⟨p, 7, none⟩ (Iv_N ((m.at_ : Int) + 1)) = W3 := ⟨_, rfl⟩
 have h3 := h2.put_at (m.at_ + 1)
 rw [q3, e3] at h3
 have k3 : Kept [p] W2 W3 := by rw [← e3]; exact (Kept.refl [p] W2).setCell (.inl (by simp)) _
 have hb3 := k3.keeps hb2 (by simpa using Ne.symm hpg)
 obtain ⟨z0, z1⟩ := cells2_N hb3
 have HB := Hid.mk hb3
 have HPG := Hid.mk hpg
 have HM := Hid.mk h3
 obtain ⟨sv3, ev3, sn3, tm3, h3⟩ := h3
 obtain ⟨sa, sc, rfl, -, -⟩ := h3.st.form
 have c8 : W3.cell? ⟨p, 8, none⟩ = some (.slice sa m.st.length sc) := by
  have := h3.c_st
  rw [rowJ_length] at this
  exact this
 have q5 : IntKind.i64.wrap ((m.st.length : Int) - (t : Int)) = (m.st.length : Int) - (t : Int) := w64_small _ (by omega)
 have q7 : IntKind.i64.wrap ((m.st.length : Int) - (t : Int) + (gv : Int)) = (m.st.length : Int) - (t : Int) + (gv : Int) := w64_small _ (by omega)
 clear h2 h3 hb2 hb3 k2 k3 q3 hpg hat q1
 by_cases hlt : m.st.length < t
 ·have hI : (m.st.length : Int) < (t : Int) := by omega
  have HO3 := Hid.mk (HO.out.trans (if_pos (.inl hlt)))
  clear HO
  go_wp2_with (go_at_call 129; refine (HT.out _).mono ?_; rintro e w9 ⟨rfl, rfl⟩)
  go_ret2
  exact ⟨_, _, rfl, by rw [HO3.out]; exact ⟨rfl, rfl, _, HM.out⟩⟩
 by_cases hgt : 16 < m.st.length - t + gv
 ·have hI : ¬ (m.st.length : Int) < (t : Int) := by omega
  have hI2 : (16 : Int) < (m.st.length : Int) - (t : Int) + (gv : Int) := by omega
  have HO3 := Hid.mk (HO.out.trans (if_pos (.inr hgt)))
  clear HO
  go_wp2_with (go_at_call 129; refine (HT.out _).mono ?_; rintro e w9 ⟨rfl, rfl⟩)
  go_ret2
  exact ⟨_, _, rfl, by rw [HO3.out]; exact ⟨rfl, rfl, _, HM.out⟩⟩
 have hI : ¬ (m.st.length : Int) < (t : Int) := by omega
 have hI2 : ¬ (16 : Int) < (m.st.length : Int) - (t : Int) + (gv : Int) := by omega
 have HO3 := Hid.mk (HO.out.trans (if_neg (by omega)))
 clear HO
 obtain rfl : t = 2 := HT2.out
 obtain rfl : gv = 0 := HG2.out
 have HO4 := Hid.mk (HO3.out.trans (if_pos rfl))
 have hne : m.st ≠ [] := fun e => hlt (by rw [e]; simp)
 have hdl : m.st.dropLast.length = m.st.length - 1 := by simp
 have hne2 : m.st.dropLast ≠ [] := fun e => by rw [e] at hdl; simp at hdl; omega
 have HPO := Hid.mk (pop36 HM.out hne (by show m.st.length ≤ 900; omega))
 have HP2 : Hid (∀ W, FSt B W p { m with at_ := m.at_ + 1, st := m.st.dropLast } k → Calls Tryz.prog 130 #[.pointer (some ⟨p, 0, none⟩)] W fun e w' => e = .returned (.int .i64 (m.st.dropLast.getLastD 0)) ∧ FSt B w' p { m with at_ := m.at_ + 1, st := m.st.dropLast.dropLast } k ∧ Kept [p] W w') := Hid.mk (fun W hW => pop36 hW hne2 (by show m.st.dropLast.length ≤ 900; omega))
 have hl9 : m.st.dropLast.dropLast.length ≤ 16 := by simp; omega
 clear hne hne2 hdl
 dsimp only at HPO
 have HL9 := Hid.mk hl9
 clear hl9
 have HX9 := Hid.mk hx9
 generalize m.st.getLastD 0 = y at *
 generalize m.st.dropLast.getLastD 0 = x at *
 go_wp2_with (first | (go_at_call 129; refine (HT.out _).mono ?_; rintro e w9 ⟨rfl, rfl⟩) | (go_at_call 130; with_reducible refine HPO.out.mono ?_; rintro e w5 ⟨rfl, h5, k5⟩) | (go_at_call 130; refine (HP2.out w5 h5).mono ?_; rintro e w6 ⟨rfl, h6, k6⟩; have hb6 := k6.keeps (k5.keeps HB.out (by simpa using Ne.symm HPG.out)) (by simpa using Ne.symm HPG.out); have t0 := (cells2_N hb6).1; have t1 := (cells2_N hb6).2) | (go_at_call 132; refine (HU.out _ HG2.out _ _ x y h6 HL.out HX9.out).mono ?_; rintro e w7 ⟨b7, d7, rfl, h7⟩))
 go_ret2
 exact ⟨_, _, rfl, by rw [HO4.out]; exact h7⟩
set_option maxHeartbeats 8000000 in
theorem one22_18 {arg : Int} (hG : B.Good) (h : FSt B w p m k) (hx : B.pg.code[m.at_]? = some ⟨18, arg⟩) (hF : Fit B.pg 18 arg) (hL : Lite m) (hst : m.st.length ≤ 16) (hx9 : I64 (m.st.dropLast.getLastD 0)) : Calls Tryz.prog 101 #[.pointer (some ⟨p, 0, none⟩)] w fun e w' => Ret2 (OuF B p k (oneI B.pg B.l B.now m ⟨18, arg⟩)) e w' := by
 obtain ⟨sv, ev, sn, tm, h⟩ := h
 obtain ⟨b, o, d, c1, c2, c3⟩ := h.c_ins hG.ok hx
 have c4 := h.c_at
 have hat : m.at_ < B.pg.code.length := (List.getElem?_eq_some_iff.1 hx).1
 have hat2 : m.at_ < 200 := by have := hG.few; omega
 have q0 : (0 : Int) ≤ (m.at_ : Int) := by omega
 have q1 : (m.at_ : Int) < (B.pg.code.length : Int) := by omega
 dsimp only at c2 c3
 have SP : Hid (∀ V, Kept [] w V → V.cell? ⟨p, 1, none⟩ = some (.slice (some ⟨b, o, none⟩) B.pg.code.length d) ∧ V.cell? ⟨p, 7, none⟩ = some (Iv_N (m.at_ : Int)) ∧ V.cell? ⟨b, o + m.at_ * 2, none⟩ = some (.int .i64 18) ∧ V.cell? ⟨b, o + m.at_ * 2 + 1, none⟩ = some (.int .i64 arg)) := Hid.mk (fun V kk => ⟨kk.cell_eq c1, kk.cell_eq c4, kk.cell_eq c2, kk.cell_eq c3⟩)
 have HO : Hid (∀ t gv, t = (effI 18).1 → gv = (effI 18).2 → oneI B.pg B.l B.now m ⟨18, arg⟩ = (if m.st.length < t ∨ 16 < m.st.length - t + gv then .err 10 else if t = 2 then actI B.pg B.l B.now { m with at_ := m.at_ + 1, st := m.st.dropLast.dropLast } 18 gv arg (m.st.dropLast.getLastD 0) (m.st.getLastD 0) else if t = 1 then actI B.pg B.l B.now { m with at_ := m.at_ + 1, st := m.st.dropLast } 18 gv arg (m.st.getLastD 0) 0 else actI B.pg B.l B.now { m with at_ := m.at_ + 1 } 18 gv arg 0 0)) := Hid.mk (fun t gv e1 e2 => by subst e1 e2; rfl)
 have HT := fun W => effect35_18 (w := W)
 have hgv1 : (effI 18).1 ≤ 2 ∧ (effI 18).2 ≤ 2 := effI_le2
 have HU : Hid (∀ gv, gv = (effI 18).2 → ∀ (W : World) (m' : Mc) (x y : Int), FSt B W p m' k → Lite m' → I64 x → Calls Tryz.prog 132 #[.pointer (some ⟨p, 0, none⟩), .agg #[.int .i64 18, .int .i64 arg], .int .i64 x, .int .i64 y] W fun e w' => Ret2 (OuF B p k (actI B.pg B.l B.now m' 18 gv arg x y)) e w') := Hid.mk (fun gv e W m' x y h hl hx => by subst e; exact out38_18a hG h hF x y hl hx)
 obtain ⟨t, ht⟩ : ∃ t, t = (effI 18).1 := ⟨_, rfl⟩
 obtain ⟨gv, hgv⟩ : ∃ gv, gv = (effI 18).2 := ⟨_, rfl⟩
 have HO := Hid.mk (HO.out t gv ht hgv)
 rw [← ht, ← hgv] at HT hgv1
 obtain ⟨ht2, hg2⟩ := hgv1
 have HT := Hid.mk HT
 have HT2 := Hid.mk ht
 have HG2 := Hid.mk hgv
 have HL := Hid.mk hL
 clear c1 c2 c3 c4 ht hgv hx hF hL hG
 go_enter Tryz.func101, Tryz.ntmps101
 go_wp2_with fail
 go_region_held3 (fun V => V.cell? ⟨p, 1, none⟩ = some (.slice (some ⟨b, o, none⟩) B.pg.code.length d) ∧ V.cell? ⟨p, 7, none⟩ = some (Iv_N (m.at_ : Int)) ∧ V.cell? ⟨b, o + m.at_ * 2, none⟩ = some (.int .i64 18) ∧ V.cell? ⟨b, o + m.at_ * 2 + 1, none⟩ = some (.int .i64 arg)) (first | exact SP.out _ (Kept.refl [] _).drew | exact SP.out _ ((Kept.refl [] _).alloc _).drew) (fail)
 obtain ⟨W2, e2⟩ : ∃ W2, (w.alloc (.cells #[.int .i64 18, .int .i64 arg] 108)).drew = W2 := ⟨_, rfl⟩
 rw [e2]
 have k2 : Kept [] w W2 := by rw [← e2]; exact ((Kept.refl [] _).alloc _).drew
 have hb2 : W2.heap[w.heap.size]? = some (.cells #[.int .i64 18, .int .i64 arg] 108) := by rw [← e2]; exact heap_alloc_new w _
 have h2 := h.keep k2
 have hpg : p ≠ w.heap.size := Nat.ne_of_lt (lt_of_block h.rs.box)
 clear e2 SP h
 generalize w.heap.size = g at *
 have c5 := h2.c_at
 have f5 := h2.rs.free 7
 have q3 : ((m.at_ + 1 : Nat) : Int) = (m.at_ : Int) + 1 := by omega
 obtain ⟨W3, e3⟩ : ∃ W3, W2.setCell ⟨p, 7, none⟩ (Iv_N ((m.at_ : Int) + 1)) = W3 := ⟨_, rfl⟩
 have h3 := h2.put_at (m.at_ + 1)
 rw [q3, e3] at h3
 have k3 : Kept [p] W2 W3 := by rw [← e3]; exact (Kept.refl [p] W2).setCell (.inl (by simp)) _
 have hb3 := k3.keeps hb2 (by simpa using Ne.symm hpg)
 obtain ⟨z0, z1⟩ := cells2_N hb3
 have HB := Hid.mk hb3
 have HPG := Hid.mk hpg
 have HM := Hid.mk h3
 obtain ⟨sv3, ev3, sn3, tm3, h3⟩ := h3
 obtain ⟨sa, sc, rfl, -, -⟩ := h3.st.form
 have c8 : W3.cell? ⟨p, 8, none⟩ = some (.slice sa m.st.length sc) := by
  have := h3.c_st
  rw [rowJ_length] at this
  exact this
 have q5 : IntKind.i64.wrap ((m.st.length : Int) - (t : Int)) = (m.st.length : Int) - (t : Int) := w64_small _ (by omega)
 have q7 : IntKind.i64.wrap ((m.st.length : Int) - (t : Int) + (gv : Int)) = (m.st.length : Int) - (t : Int) + (gv : Int) := w64_small _ (by omega)
 clear h2 h3 hb2 hb3 k2 k3 q3 hpg hat q1
 by_cases hlt : m.st.length < t
 ·have hI : (m.st.length : Int) < (t : Int) := by omega
  have HO3 := Hid.mk (HO.out.trans (if_pos (.inl hlt)))
  clear HO
  go_wp2_with (go_at_call 129; refine (HT.out _).mono ?_; rintro e w9 ⟨rfl, rfl⟩)
  go_ret2
  exact ⟨_, _, rfl, by rw [HO3.out]; exact ⟨rfl, rfl, _, HM.out⟩⟩
 by_cases hgt : 16 < m.st.length - t + gv
 ·have hI : ¬ (m.st.length : Int) < (t : Int) := by omega
  have hI2 : (16 : Int) < (m.st.length : Int) - (t : Int) + (gv : Int) := by omega
  have HO3 := Hid.mk (HO.out.trans (if_pos (.inr hgt)))
  clear HO
  go_wp2_with (go_at_call 129; refine (HT.out _).mono ?_; rintro e w9 ⟨rfl, rfl⟩)
  go_ret2
  exact ⟨_, _, rfl, by rw [HO3.out]; exact ⟨rfl, rfl, _, HM.out⟩⟩
 have hI : ¬ (m.st.length : Int) < (t : Int) := by omega
 have hI2 : ¬ (16 : Int) < (m.st.length : Int) - (t : Int) + (gv : Int) := by omega
 have HO3 := Hid.mk (HO.out.trans (if_neg (by omega)))
 clear HO
 obtain rfl : t = 2 := HT2.out
 obtain rfl : gv = 0 := HG2.out
 have HX9 := Hid.mk hx9
 have HO4 := Hid.mk (HO3.out.trans (if_pos rfl))
 have hne : m.st ≠ [] := fun e => hlt (by rw [e]; simp)
 have hdl : m.st.dropLast.length = m.st.length - 1 := by simp
 have hne2 : m.st.dropLast ≠ [] := fun e => by rw [e] at hdl; simp at hdl; omega
 have HPO := Hid.mk (pop36 HM.out hne (by show m.st.length ≤ 900; omega))
 have HP2 : Hid (∀ W, FSt B W p { m with at_ := m.at_ + 1, st := m.st.dropLast } k → Calls Tryz.prog 130 #[.pointer (some ⟨p, 0, none⟩)] W fun e w' => e = .returned (.int .i64 (m.st.dropLast.getLastD 0)) ∧ FSt B w' p { m with at_ := m.at_ + 1, st := m.st.dropLast.dropLast } k ∧ Kept [p] W w') := Hid.mk (fun W hW => pop36 hW hne2 (by show m.st.dropLast.length ≤ 900; omega))
 have hl9 : m.st.dropLast.dropLast.length ≤ 16 := by simp; omega
 clear hne hne2 hdl
 dsimp only at HPO
 have HL9 := Hid.mk hl9
 clear hl9
 generalize m.st.getLastD 0 = y at *
 generalize m.st.dropLast.getLastD 0 = x at *
 go_wp2_with (first | (go_at_call 129; refine (HT.out _).mono ?_; rintro e w9 ⟨rfl, rfl⟩) | (go_at_call 130; with_reducible refine HPO.out.mono ?_; rintro e w5 ⟨rfl, h5, k5⟩) | (go_at_call 130; refine (HP2.out w5 h5).mono ?_; rintro e w6 ⟨rfl, h6, k6⟩; have hb6 := k6.keeps (k5.keeps HB.out (by simpa using Ne.symm HPG.out)) (by simpa using Ne.symm HPG.out); have t0 := (cells2_N hb6).1; have t1 := (cells2_N hb6).2) | (go_at_call 132; refine (HU.out _ HG2.out _ _ x y h6 HL.out HX9.out).mono ?_; rintro e w7 ⟨b7, d7, rfl, h7⟩))
 go_ret2
 exact ⟨_, _, rfl, by rw [HO4.out]; exact h7⟩
set_option maxHeartbeats 8000000 in
theorem one22_19 {arg : Int} (hG : B.Good) (h : FSt B w p m k) (hx : B.pg.code[m.at_]? = some ⟨19, arg⟩) (hF : Fit B.pg 19 arg) (hL : Lite m) (hst : m.st.length ≤ 16) (hx9 : I64 (m.st.dropLast.getLastD 0)) : Calls Tryz.prog 101 #[.pointer (some ⟨p, 0, none⟩)] w fun e w' => Ret2 (OuF B p k (oneI B.pg B.l B.now m ⟨19, arg⟩)) e w' := by
 obtain ⟨sv, ev, sn, tm, h⟩ := h
 obtain ⟨b, o, d, c1, c2, c3⟩ := h.c_ins hG.ok hx
 have c4 := h.c_at
 have hat : m.at_ < B.pg.code.length := (List.getElem?_eq_some_iff.1 hx).1
 have hat2 : m.at_ < 200 := by have := hG.few; omega
 have q0 : (0 : Int) ≤ (m.at_ : Int) := by omega
 have q1 : (m.at_ : Int) < (B.pg.code.length : Int) := by omega
 dsimp only at c2 c3
 have SP : Hid (∀ V, Kept [] w V → V.cell? ⟨p, 1, none⟩ = some (.slice (some ⟨b, o, none⟩) B.pg.code.length d) ∧ V.cell? ⟨p, 7, none⟩ = some (Iv_N (m.at_ : Int)) ∧ V.cell? ⟨b, o + m.at_ * 2, none⟩ = some (.int .i64 19) ∧ V.cell? ⟨b, o + m.at_ * 2 + 1, none⟩ = some (.int .i64 arg)) := Hid.mk (fun V kk => ⟨kk.cell_eq c1, kk.cell_eq c4, kk.cell_eq c2, kk.cell_eq c3⟩)
 have HO : Hid (∀ t gv, t = (effI 19).1 → gv = (effI 19).2 → oneI B.pg B.l B.now m ⟨19, arg⟩ = (if m.st.length < t ∨ 16 < m.st.length - t + gv then .err 10 else if t = 2 then actI B.pg B.l B.now { m with at_ := m.at_ + 1, st := m.st.dropLast.dropLast } 19 gv arg (m.st.dropLast.getLastD 0) (m.st.getLastD 0) else if t = 1 then actI B.pg B.l B.now { m with at_ := m.at_ + 1, st := m.st.dropLast } 19 gv arg (m.st.getLastD 0) 0 else actI B.pg B.l B.now { m with at_ := m.at_ + 1 } 19 gv arg 0 0)) := Hid.mk (fun t gv e1 e2 => by subst e1 e2; rfl)
 have HT := fun W => effect35_19 (w := W)
 have hgv1 : (effI 19).1 ≤ 2 ∧ (effI 19).2 ≤ 2 := effI_le2
 have HU : Hid (∀ gv, gv = (effI 19).2 → ∀ (W : World) (m' : Mc) (x y : Int), FSt B W p m' k → Lite m' → I64 x → Calls Tryz.prog 132 #[.pointer (some ⟨p, 0, none⟩), .agg #[.int .i64 19, .int .i64 arg], .int .i64 x, .int .i64 y] W fun e w' => Ret2 (OuF B p k (actI B.pg B.l B.now m' 19 gv arg x y)) e w') := Hid.mk (fun gv e W m' x y h hl hx => by subst e; exact out38_19a hG h hF x y hl hx)
 obtain ⟨t, ht⟩ : ∃ t, t = (effI 19).1 := ⟨_, rfl⟩
 obtain ⟨gv, hgv⟩ : ∃ gv, gv = (effI 19).2 := ⟨_, rfl⟩
 have HO := Hid.mk (HO.out t gv ht hgv)
 rw [← ht, ← hgv] at HT hgv1
 obtain ⟨ht2, hg2⟩ := hgv1
 have HT := Hid.mk HT
 have HT2 := Hid.mk ht
 have HG2 := Hid.mk hgv
 have HL := Hid.mk hL
 clear c1 c2 c3 c4 ht hgv hx hF hL hG
 go_enter Tryz.func101, Tryz.ntmps101
 go_wp2_with fail
 go_region_held3 (fun V => V.cell? ⟨p, 1, none⟩ = some (.slice (some ⟨b, o, none⟩) B.pg.code.length d) ∧ V.cell? ⟨p, 7, none⟩ = some (Iv_N (m.at_ : Int)) ∧ V.cell? ⟨b, o + m.at_ * 2, none⟩ = some (.int .i64 19) ∧ V.cell? ⟨b, o + m.at_ * 2 + 1, none⟩ = some (.int .i64 arg)) (first | exact SP.out _ (Kept.refl [] _).drew | exact SP.out _ ((Kept.refl [] _).alloc _).drew) (fail)
 obtain ⟨W2, e2⟩ : ∃ W2, (w.alloc (.cells #[.int .i64 19, .int .i64 arg] 108)).drew = W2 := ⟨_, rfl⟩
 rw [e2]
 have k2 : Kept [] w W2 := by rw [← e2]; exact ((Kept.refl [] _).alloc _).drew
 have hb2 : W2.heap[w.heap.size]? = some (.cells #[.int .i64 19, .int .i64 arg] 108) := by rw [← e2]; exact heap_alloc_new w _
 have h2 := h.keep k2
 have hpg : p ≠ w.heap.size := Nat.ne_of_lt (lt_of_block h.rs.box)
 clear e2 SP h
 generalize w.heap.size = g at *
 have c5 := h2.c_at
 have f5 := h2.rs.free 7
 have q3 : ((m.at_ + 1 : Nat) : Int) = (m.at_ : Int) + 1 := by omega
 obtain ⟨W3, e3⟩ : ∃ W3, W2.setCell ⟨p, 7, none⟩ (Iv_N ((m.at_ : Int) + 1)) = W3 := ⟨_, rfl⟩
 have h3 := h2.put_at (m.at_ + 1)
 rw [q3, e3] at h3
 have k3 : Kept [p] W2 W3 := by rw [← e3]; exact (Kept.refl [p] W2).setCell (.inl (by simp)) _
 have hb3 := k3.keeps hb2 (by simpa using Ne.symm hpg)
 obtain ⟨z0, z1⟩ := cells2_N hb3
 have HB := Hid.mk hb3
 have HPG := Hid.mk hpg
 have HM := Hid.mk h3
 obtain ⟨sv3, ev3, sn3, tm3, h3⟩ := h3
 obtain ⟨sa, sc, rfl, -, -⟩ := h3.st.form
 have c8 : W3.cell? ⟨p, 8, none⟩ = some (.slice sa m.st.length sc) := by
  have := h3.c_st
  rw [rowJ_length] at this
  exact this
 have q5 : IntKind.i64.wrap ((m.st.length : Int) - (t : Int)) = (m.st.length : Int) - (t : Int) := w64_small _ (by omega)
 have q7 : IntKind.i64.wrap ((m.st.length : Int) - (t : Int) + (gv : Int)) = (m.st.length : Int) - (t : Int) + (gv : Int) := w64_small _ (by omega)
 clear h2 h3 hb2 hb3 k2 k3 q3 hpg hat q1
 by_cases hlt : m.st.length < t
 ·have hI : (m.st.length : Int) < (t : Int) := by omega
  have HO3 := Hid.mk (HO.out.trans (if_pos (.inl hlt)))
  clear HO
  go_wp2_with (go_at_call 129; refine (HT.out _).mono ?_; rintro e w9 ⟨rfl, rfl⟩)
  go_ret2
  exact ⟨_, _, rfl, by rw [HO3.out]; exact ⟨rfl, rfl, _, HM.out⟩⟩
 by_cases hgt : 16 < m.st.length - t + gv
 ·have hI : ¬ (m.st.length : Int) < (t : Int) := by omega
  have hI2 : (16 : Int) < (m.st.length : Int) - (t : Int) + (gv : Int) := by omega
  have HO3 := Hid.mk (HO.out.trans (if_pos (.inr hgt)))
  clear HO
  go_wp2_with (go_at_call 129; refine (HT.out _).mono ?_; rintro e w9 ⟨rfl, rfl⟩)
  go_ret2
  exact ⟨_, _, rfl, by rw [HO3.out]; exact ⟨rfl, rfl, _, HM.out⟩⟩
 have hI : ¬ (m.st.length : Int) < (t : Int) := by omega
 have hI2 : ¬ (16 : Int) < (m.st.length : Int) - (t : Int) + (gv : Int) := by omega
 have HO3 := Hid.mk (HO.out.trans (if_neg (by omega)))
 clear HO
 obtain rfl : t = 2 := HT2.out
 obtain rfl : gv = 0 := HG2.out
 have HO4 := Hid.mk (HO3.out.trans (if_pos rfl))
 have hne : m.st ≠ [] := fun e => hlt (by rw [e]; simp)
 have hdl : m.st.dropLast.length = m.st.length - 1 := by simp
 have hne2 : m.st.dropLast ≠ [] := fun e => by rw [e] at hdl; simp at hdl; omega
 have HPO := Hid.mk (pop36 HM.out hne (by show m.st.length ≤ 900; omega))
 have HP2 : Hid (∀ W, FSt B W p { m with at_ := m.at_ + 1, st := m.st.dropLast } k → Calls Tryz.prog 130 #[.pointer (some ⟨p, 0, none⟩)] W fun e w' => e = .returned (.int .i64 (m.st.dropLast.getLastD 0)) ∧ FSt B w' p { m with at_ := m.at_ + 1, st := m.st.dropLast.dropLast } k ∧ Kept [p] W w') := Hid.mk (fun W hW => pop36 hW hne2 (by show m.st.dropLast.length ≤ 900; omega))
 have hl9 : m.st.dropLast.dropLast.length ≤ 16 := by simp; omega
 clear hne hne2 hdl
 dsimp only at HPO
 have HL9 := Hid.mk hl9
 clear hl9
 have HX9 := Hid.mk hx9
 generalize m.st.getLastD 0 = y at *
 generalize m.st.dropLast.getLastD 0 = x at *
 go_wp2_with (first | (go_at_call 129; refine (HT.out _).mono ?_; rintro e w9 ⟨rfl, rfl⟩) | (go_at_call 130; with_reducible refine HPO.out.mono ?_; rintro e w5 ⟨rfl, h5, k5⟩) | (go_at_call 130; refine (HP2.out w5 h5).mono ?_; rintro e w6 ⟨rfl, h6, k6⟩; have hb6 := k6.keeps (k5.keeps HB.out (by simpa using Ne.symm HPG.out)) (by simpa using Ne.symm HPG.out); have t0 := (cells2_N hb6).1; have t1 := (cells2_N hb6).2) | (go_at_call 132; refine (HU.out _ HG2.out _ _ x y h6 HL.out HX9.out).mono ?_; rintro e w7 ⟨b7, d7, rfl, h7⟩))
 go_ret2
 exact ⟨_, _, rfl, by rw [HO4.out]; exact h7⟩
set_option maxHeartbeats 8000000 in
theorem one22_20 {arg : Int} (hG : B.Good) (h : FSt B w p m k) (hx : B.pg.code[m.at_]? = some ⟨20, arg⟩) (hF : Fit B.pg 20 arg) (hL : Lite m) (hst : m.st.length ≤ 16) : Calls Tryz.prog 101 #[.pointer (some ⟨p, 0, none⟩)] w fun e w' => Ret2 (OuF B p k (oneI B.pg B.l B.now m ⟨20, arg⟩)) e w' := by
 obtain ⟨sv, ev, sn, tm, h⟩ := h
 obtain ⟨b, o, d, c1, c2, c3⟩ := h.c_ins hG.ok hx
 have c4 := h.c_at
 have hat : m.at_ < B.pg.code.length := (List.getElem?_eq_some_iff.1 hx).1
 have hat2 : m.at_ < 200 := by have := hG.few; omega
 have q0 : (0 : Int) ≤ (m.at_ : Int) := by omega
 have q1 : (m.at_ : Int) < (B.pg.code.length : Int) := by omega
 dsimp only at c2 c3
 have SP : Hid (∀ V, Kept [] w V → V.cell? ⟨p, 1, none⟩ = some (.slice (some ⟨b, o, none⟩) B.pg.code.length d) ∧ V.cell? ⟨p, 7, none⟩ = some (Iv_N (m.at_ : Int)) ∧ V.cell? ⟨b, o + m.at_ * 2, none⟩ = some (.int .i64 20) ∧ V.cell? ⟨b, o + m.at_ * 2 + 1, none⟩ = some (.int .i64 arg)) := Hid.mk (fun V kk => ⟨kk.cell_eq c1, kk.cell_eq c4, kk.cell_eq c2, kk.cell_eq c3⟩)
 have HO : Hid (∀ t gv, t = (effI 20).1 → gv = (effI 20).2 → oneI B.pg B.l B.now m ⟨20, arg⟩ = (if m.st.length < t ∨ 16 < m.st.length - t + gv then .err 10 else if t = 2 then actI B.pg B.l B.now { m with at_ := m.at_ + 1, st := m.st.dropLast.dropLast } 20 gv arg (m.st.dropLast.getLastD 0) (m.st.getLastD 0) else if t = 1 then actI B.pg B.l B.now { m with at_ := m.at_ + 1, st := m.st.dropLast } 20 gv arg (m.st.getLastD 0) 0 else actI B.pg B.l B.now { m with at_ := m.at_ + 1 } 20 gv arg 0 0)) := Hid.mk (fun t gv e1 e2 => by subst e1 e2; rfl)
 have HT := fun W => effect35_20 (w := W)
 have hgv1 : (effI 20).1 ≤ 2 ∧ (effI 20).2 ≤ 2 := effI_le2
 have HU : Hid (∀ gv, gv = (effI 20).2 → ∀ (W : World) (m' : Mc) (x y : Int), FSt B W p m' k → Lite m' → I64 x → Calls Tryz.prog 132 #[.pointer (some ⟨p, 0, none⟩), .agg #[.int .i64 20, .int .i64 arg], .int .i64 x, .int .i64 y] W fun e w' => Ret2 (OuF B p k (actI B.pg B.l B.now m' 20 gv arg x y)) e w') := Hid.mk (fun gv e W m' x y h hl hx => by subst e; exact out38_20a hG h hF x y hl hx)
 obtain ⟨t, ht⟩ : ∃ t, t = (effI 20).1 := ⟨_, rfl⟩
 obtain ⟨gv, hgv⟩ : ∃ gv, gv = (effI 20).2 := ⟨_, rfl⟩
 have HO := Hid.mk (HO.out t gv ht hgv)
 rw [← ht, ← hgv] at HT hgv1
 obtain ⟨ht2, hg2⟩ := hgv1
 have HT := Hid.mk HT
 have HT2 := Hid.mk ht
 have HG2 := Hid.mk hgv
 have HL := Hid.mk hL
 clear c1 c2 c3 c4 ht hgv hx hF hL hG
 go_enter Tryz.func101, Tryz.ntmps101
 go_wp2_with fail
 go_region_held3 (fun V => V.cell? ⟨p, 1, none⟩ = some (.slice (some ⟨b, o, none⟩) B.pg.code.length d) ∧ V.cell? ⟨p, 7, none⟩ = some (Iv_N (m.at_ : Int)) ∧ V.cell? ⟨b, o + m.at_ * 2, none⟩ = some (.int .i64 20) ∧ V.cell? ⟨b, o + m.at_ * 2 + 1, none⟩ = some (.int .i64 arg)) (first | exact SP.out _ (Kept.refl [] _).drew | exact SP.out _ ((Kept.refl [] _).alloc _).drew) (fail)
 obtain ⟨W2, e2⟩ : ∃ W2, (w.alloc (.cells #[.int .i64 20, .int .i64 arg] 108)).drew = W2 := ⟨_, rfl⟩
 rw [e2]
 have k2 : Kept [] w W2 := by rw [← e2]; exact ((Kept.refl [] _).alloc _).drew
 have hb2 : W2.heap[w.heap.size]? = some (.cells #[.int .i64 20, .int .i64 arg] 108) := by rw [← e2]; exact heap_alloc_new w _
 have h2 := h.keep k2
 have hpg : p ≠ w.heap.size := Nat.ne_of_lt (lt_of_block h.rs.box)
 clear e2 SP h
 generalize w.heap.size = g at *
 have c5 := h2.c_at
 have f5 := h2.rs.free 7
 have q3 : ((m.at_ + 1 : Nat) : Int) = (m.at_ : Int) + 1 := by omega
 obtain ⟨W3, e3⟩ : ∃ W3, W2.setCell ⟨p, 7, none⟩ (Iv_N ((m.at_ : Int) + 1)) = W3 := ⟨_, rfl⟩
 have h3 := h2.put_at (m.at_ + 1)
 rw [q3, e3] at h3
 have k3 : Kept [p] W2 W3 := by rw [← e3]; exact (Kept.refl [p] W2).setCell (.inl (by simp)) _
 have hb3 := k3.keeps hb2 (by simpa using Ne.symm hpg)
 obtain ⟨z0, z1⟩ := cells2_N hb3
 have HB := Hid.mk hb3
 have HPG := Hid.mk hpg
 have HM := Hid.mk h3
 obtain ⟨sv3, ev3, sn3, tm3, h3⟩ := h3
 obtain ⟨sa, sc, rfl, -, -⟩ := h3.st.form
 have c8 : W3.cell? ⟨p, 8, none⟩ = some (.slice sa m.st.length sc) := by
  have := h3.c_st
  rw [rowJ_length] at this
  exact this
 have q5 : IntKind.i64.wrap ((m.st.length : Int) - (t : Int)) = (m.st.length : Int) - (t : Int) := w64_small _ (by omega)
 have q7 : IntKind.i64.wrap ((m.st.length : Int) - (t : Int) + (gv : Int)) = (m.st.length : Int) - (t : Int) + (gv : Int) := w64_small _ (by omega)
 clear h2 h3 hb2 hb3 k2 k3 q3 hpg hat q1
 by_cases hlt : m.st.length < t
 ·have hI : (m.st.length : Int) < (t : Int) := by omega
  have HO3 := Hid.mk (HO.out.trans (if_pos (.inl hlt)))
  clear HO
  go_wp2_with (go_at_call 129; refine (HT.out _).mono ?_; rintro e w9 ⟨rfl, rfl⟩)
  go_ret2
  exact ⟨_, _, rfl, by rw [HO3.out]; exact ⟨rfl, rfl, _, HM.out⟩⟩
 by_cases hgt : 16 < m.st.length - t + gv
 ·have hI : ¬ (m.st.length : Int) < (t : Int) := by omega
  have hI2 : (16 : Int) < (m.st.length : Int) - (t : Int) + (gv : Int) := by omega
  have HO3 := Hid.mk (HO.out.trans (if_pos (.inr hgt)))
  clear HO
  go_wp2_with (go_at_call 129; refine (HT.out _).mono ?_; rintro e w9 ⟨rfl, rfl⟩)
  go_ret2
  exact ⟨_, _, rfl, by rw [HO3.out]; exact ⟨rfl, rfl, _, HM.out⟩⟩
 have hI : ¬ (m.st.length : Int) < (t : Int) := by omega
 have hI2 : ¬ (16 : Int) < (m.st.length : Int) - (t : Int) + (gv : Int) := by omega
 have HO3 := Hid.mk (HO.out.trans (if_neg (by omega)))
 clear HO
 obtain rfl : t = 0 := HT2.out
 obtain rfl : gv = 0 := HG2.out
 have HO4 := Hid.mk (HO3.out.trans ((if_neg (by omega)).trans (if_neg (by omega))))
 have hl9 : m.st.length ≤ 16 := hst
 have HL9 := Hid.mk hl9
 clear hl9
 go_wp2_with (first | (go_at_call 129; refine (HT.out _).mono ?_; rintro e w9 ⟨rfl, rfl⟩) | (go_at_call 132; refine (HU.out _ HG2.out _ _ 0 0 HM.out HL.out i64_zero).mono ?_; rintro e w7 ⟨b7, d7, rfl, h7⟩))
 go_ret2
 exact ⟨_, _, rfl, by rw [HO4.out]; exact h7⟩
end
section
variable {B : Bs} {w w' : World} {p : Nat} {m : Mc} {k : Nat}
theorem lastD_i64 {l : List Int} (h : ∀ z ∈ l, I64 z) : I64 (l.getLastD 0) := by
 rw [List.getLastD_eq_getLast?]
 cases hl : l.getLast? with
 | none => exact i64_zero
 | some v => exact h v (List.mem_of_getLast? hl)
theorem one22_any {i : Nat} {arg : Int} (hG : B.Good) (h : FSt B w p m k) (hx : B.pg.code[m.at_]? = some ⟨(i : Int), arg⟩) (hF : Fit B.pg i arg) (hL : Lite m) (hst : m.st.length ≤ 16) (hs : ∀ z ∈ m.st, I64 z) : Calls Tryz.prog 101 #[.pointer (some ⟨p, 0, none⟩)] w fun e w' => Ret2 (OuF B p k (oneI B.pg B.l B.now m ⟨(i : Int), arg⟩)) e w' := by
 have h9 : I64 (m.st.dropLast.getLastD 0) := lastD_i64 (fun z hz => hs z (by rw [List.dropLast_eq_take] at hz; exact List.mem_of_mem_take hz))
 have hlt := hF.op
 match i, hlt with
 | 0, _ => exact one22_0 hG h hx hF hL hst
 | 1, _ => exact one22_D hG h hx hF hL hst rfl
 | 2, _ => exact one22_D hG h hx hF hL hst rfl
 | 3, _ => exact one22_3 hG h hx hF hL hst
 | 4, _ => exact one22_D hG h hx hF hL hst rfl
 | 5, _ => exact one22_D hG h hx hF hL hst rfl
 | 6, _ => exact one22_D hG h hx hF hL hst rfl
 | 7, _ => exact one22_D hG h hx hF hL hst rfl
 | 8, _ => exact one22_D hG h hx hF hL hst rfl
 | 9, _ => exact one22_D hG h hx hF hL hst rfl
 | 10, _ => exact one22_D hG h hx hF hL hst rfl
 | 11, _ => exact one22_D hG h hx hF hL hst rfl
 | 12, _ => exact one22_12 hG h hx hF hL hst
 | 13, _ => exact one22_13 hG h hx hF hL hst
 | 14, _ => exact one22_14 hG h hx hF hL hst
 | 15, _ => exact one22_15 hG h hx hF hL hst
 | 16, _ => exact one22_16 hG h hx hF hL hst
 | 17, _ => exact one22_17 hG h hx hF hL hst h9
 | 18, _ => exact one22_18 hG h hx hF hL hst h9
 | 19, _ => exact one22_19 hG h hx hF hL hst h9
 | 20, _ => exact one22_20 hG h hx hF hL hst
 | 21, _ => exact one22_21 hG h hx hF hL hst
 | 22, _ => exact one22_D hG h hx hF hL hst rfl
 | 23, _ => exact one22_D hG h hx hF hL hst rfl
 | n + 24, h => exact absurd h (by omega)
end
section
variable {w : World}
set_option maxHeartbeats 1000000 in
theorem key32 (s : List UInt8) (hs : s.length ≤ 9223372036854775807) : Calls Tryz.prog 59 #[.string ⟨s.toArray⟩] w fun e w' => e = .returned (.bool (isKey s)) ∧ w = w' := by
 have hz : (⟨s.toArray⟩ : ByteArray).size = s.length := by simp [ByteArray.size]
 unfold isKey
 by_cases h1 : 1 ≤ s.length
 ·have h1' : (1 : Int) ≤ (s.length : Int) := by omega
  by_cases h2 : s.length ≤ 40
  ·have h2' : (s.length : Int) ≤ 40 := by omega
   have e : (decide (1 ≤ s.length) && decide (s.length ≤ 40)) = true := by simp [h1, h2]
   rw [e]
   go_enter Tryz.func59, Tryz.ntmps59
   go_wp2_with fail
   go_ret
   exact ⟨rfl, rfl⟩
  ·have h2' : ¬ (s.length : Int) ≤ 40 := by omega
   have e : (decide (1 ≤ s.length) && decide (s.length ≤ 40)) = false := by simp [h2]
   rw [e]
   go_enter Tryz.func59, Tryz.ntmps59
   go_wp2_with fail
   go_ret
   exact ⟨rfl, rfl⟩
 ·have h1' : ¬ (1 : Int) ≤ (s.length : Int) := by omega
  have e : (decide (1 ≤ s.length) && decide (s.length ≤ 40)) = false := by simp [h1]
  rw [e]
  go_enter Tryz.func59, Tryz.ntmps59
  go_wp2_with fail
  go_ret
  exact ⟨rfl, rfl⟩
end
end Go.Proofs.YtngnenbidpojeaaGreatDoor
