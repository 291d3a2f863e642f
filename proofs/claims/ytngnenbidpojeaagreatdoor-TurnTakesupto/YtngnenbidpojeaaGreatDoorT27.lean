import Derived.Deep.RegionHeld3
import Derived.Deep.RegionLaw
import Derived.Test.YtngnenbidpojeaaGreatDoorT22
import Derived.Test.YtngnenbidpojeaaGreatDoorT23
import Derived.Test.YtngnenbidpojeaaGreatDoorT26
/-
 The document's machine: value in the words of the pure machine; where an instruction lies.
-/
namespace Go.Proofs.YtngnenbidpojeaaGreatDoor
open Go.RowKit
set_option maxRecDepth 100000
set_option linter.unusedVariables false
def OneV (i : Nat) : Prop := (effI i).2 = 1
theorem effI_le2 {i : Nat} : (effI i).1 ≤ 2 ∧ (effI i).2 ≤ 2 := by
 unfold effI
 repeat' (split)
 all_goals (constructor <;> decide)
theorem i64_zero : I64 0 := by unfold I64; omega
section
variable {B : Bs} {w w' : World} {p : Nat} {m : Mc} {k : Nat} {sv ev sn tm : Value}
theorem FS.c_ins (hB : B.Ok) (h : FS B w p m k sv ev sn tm) {x : In} (hx : B.pg.code[m.at_]? = some x) : ∃ b o d, w.cell? ⟨p, 1, none⟩ = some (.slice (some ⟨b, o, none⟩) B.pg.code.length d) ∧ w.cell? ⟨b, o + m.at_ * 2, none⟩ = some (.int .i64 x.op) ∧ w.cell? ⟨b, o + m.at_ * 2 + 1, none⟩ = some (.int .i64 x.arg) := by
 obtain ⟨a, c, b', d, h1, h2, -⟩ := hB.prog.form
 have hN := (hB.prog.keep h.rs.kept).code
 rw [h2] at hN
 obtain ⟨hl, he⟩ := List.getElem?_eq_some_iff.1 hx
 obtain ⟨b, o, rfl, hc⟩ := code_at hN hl
 rw [he] at hc
 exact ⟨b, o, d, by rw [← h2]; exact h.fix rfl, hc⟩
theorem FS.c_reg (h : FS B w p m k sv ev sn tm) {i : Nat} {x : Int} (hi : m.reg[i]? = some x) : w.cell? ⟨p, 9 + i, none⟩ = some (Iv_N x) := h.rs.cell_res (by rw [h.len]) (cellsR_reg hi)
theorem value39_any {i : Nat} {arg : Int} (hG : B.Good) (h : FSt B w p m k) (hF : Fit B.pg i arg) (x y : Int) (hg : OneV i) : Calls Tryz.prog 133 #[.pointer (some ⟨p, 0, none⟩), .agg #[.int .i64 (i : Int), .int .i64 arg], .int .i64 x, .int .i64 y] w fun e w' => e = .returned (.int .i64 (valI B.l B.now m.reg i arg x y)) ∧ Kept [] w w' := by
 have hlt := hF.op
 unfold OneV at hg
 match i, hlt with
 | 0, _ => exact absurd hg (by decide)
 | 1, _ => exact value39_1 h arg x y
 | 2, _ => exact value39_2 h arg x y (hF.reg (.inl rfl))
 | 3, _ => exact absurd hg (by decide)
 | 4, _ => exact value39_4 h arg x y hG.ok (hF.arg rfl)
 | 5, _ => exact value39_5 h arg x y
 | 6, _ => exact value39_6 h arg x y
 | 7, _ => exact value39_7 h arg x y
 | 8, _ => exact value39_8 h arg x y
 | 9, _ => exact value39_9 h arg x y
 | 10, _ => exact value39_10 h arg x y
 | 11, _ => exact value39_11 h arg x y
 | 12, _ => exact absurd hg (by decide)
 | 13, _ => exact absurd hg (by decide)
 | 14, _ => exact absurd hg (by decide)
 | 15, _ => exact absurd hg (by decide)
 | 16, _ => exact absurd hg (by decide)
 | 17, _ => exact absurd hg (by decide)
 | 18, _ => exact absurd hg (by decide)
 | 19, _ => exact absurd hg (by decide)
 | 20, _ => exact absurd hg (by decide)
 | 21, _ => exact absurd hg (by decide)
 | 22, _ => exact value39_22 h arg x y
 | 23, _ => exact value39_23 h arg x y
 | n + 24, h => exact absurd h (by omega)
theorem oneV_ne {i : Nat} (hg : OneV i) : i ≠ 0 ∧ i ≠ 21 ∧ i ≠ 3 ∧ i ≠ 12 ∧ i ≠ 14 ∧ i ≠ 15 ∧ i ≠ 16 ∧ i ≠ 17 ∧ i ≠ 18 ∧ i ≠ 19 ∧ i ≠ 20 := by
 unfold OneV at hg
 refine ⟨?_, ?_, ?_, ?_, ?_, ?_, ?_, ?_, ?_, ?_, ?_⟩ <;> (rintro rfl; exact absurd hg (by decide))
theorem oneV_act {i : Nat} (hg : OneV i) (P : Pg) (l : Lt) (now : Int) (m : Mc) (arg x y : Int) : actI P l now m i (effI i).2 arg x y = .go { m with st := m.st ++ [valI l now m.reg i arg x y] } := by
 obtain ⟨h0, h1, h2, h3, h4, h5, h6, h7, h8, h9, h10⟩ := oneV_ne hg
 unfold OneV at hg
 unfold actI
 rw [hg, if_neg h0, if_neg h1, if_neg h2, if_neg h3, if_neg h4, if_neg h5, if_neg h6, if_neg (by omega), if_neg h9, if_neg h10, if_pos rfl]
end
section
variable {B : Bs} {w w' : World} {p : Nat} {m : Mc} {k : Nat} {sv ev sn tm : Value}
set_option maxHeartbeats 8000000 in
theorem one22_D {i : Nat} {arg : Int} (hG : B.Good) (h : FSt B w p m k) (hx : B.pg.code[m.at_]? = some ⟨(i : Int), arg⟩) (hF : Fit B.pg i arg) (hL : Lite m) (hst : m.st.length ≤ 16) (h1v : OneV i) : Calls Tryz.prog 101 #[.pointer (some ⟨p, 0, none⟩)] w fun e w' => Ret2 (OuF B p k (oneI B.pg B.l B.now m ⟨(i : Int), arg⟩)) e w' := by
 obtain ⟨sv, ev, sn, tm, h⟩ := h
 obtain ⟨b, o, d, c1, c2, c3⟩ := h.c_ins hG.ok hx
 have c4 := h.c_at
 have hat : m.at_ < B.pg.code.length := (List.getElem?_eq_some_iff.1 hx).1
 have hat2 : m.at_ < 200 := by have := hG.few; omega
 have q0 : (0 : Int) ≤ (m.at_ : Int) := by omega
 have q1 : (m.at_ : Int) < (B.pg.code.length : Int) := by omega
 dsimp only at c2 c3
 have SP : Hid (∀ V, Kept [] w V → V.cell? ⟨p, 1, none⟩ = some (.slice (some ⟨b, o, none⟩) B.pg.code.length d) ∧ V.cell? ⟨p, 7, none⟩ = some (Iv_N (m.at_ : Int)) ∧ V.cell? ⟨b, o + m.at_ * 2, none⟩ = some (.int .i64 (i : Int)) ∧ V.cell? ⟨b, o + m.at_ * 2 + 1, none⟩ = some (.int .i64 arg)) := Hid.mk (fun V kk => ⟨kk.cell_eq c1, kk.cell_eq c4, kk.cell_eq c2, kk.cell_eq c3⟩)
 have HO : Hid (∀ t gv, t = (effI i).1 → gv = (effI i).2 → oneI B.pg B.l B.now m ⟨(i : Int), arg⟩ = (if m.st.length < t ∨ 16 < m.st.length - t + gv then .err 10 else if t = 2 then actI B.pg B.l B.now { m with at_ := m.at_ + 1, st := m.st.dropLast.dropLast } i gv arg (m.st.dropLast.getLastD 0) (m.st.getLastD 0) else if t = 1 then actI B.pg B.l B.now { m with at_ := m.at_ + 1, st := m.st.dropLast } i gv arg (m.st.getLastD 0) 0 else actI B.pg B.l B.now { m with at_ := m.at_ + 1 } i gv arg 0 0)) := Hid.mk (fun t gv e1 e2 => by subst e1 e2; rfl)
 have HT := fun W => effect35 (w := W) hF.op
 have hgv1 : (effI i).1 ≤ 2 ∧ (effI i).2 ≤ 2 := effI_le2
 have HV : Hid (∀ (W : World) (m' : Mc) (x y : Int), FSt B W p m' k → Calls Tryz.prog 133 #[.pointer (some ⟨p, 0, none⟩), .agg #[.int .i64 (i : Int), .int .i64 arg], .int .i64 x, .int .i64 y] W fun e w' => e = .returned (.int .i64 (valI B.l B.now m'.reg i arg x y)) ∧ Kept [] W w') := Hid.mk (fun W m' x y h => value39_any hG h hF x y h1v)
 have HAc : Hid (∀ gv, gv = (effI i).2 → gv = 1 ∧ ∀ (m' : Mc) (x y : Int), actI B.pg B.l B.now m' i gv arg x y = .go { m' with st := m'.st ++ [valI B.l B.now m'.reg i arg x y] }) := Hid.mk (fun gv e => by subst e; exact ⟨h1v, fun m' x y => oneV_act h1v _ _ _ _ _ _ _⟩)
 obtain ⟨j0, j21, j3, j12, j14, j15, j16, j17, j18, j19, j20⟩ := oneV_ne h1v
 have n0 : ((i : Int) == 0) = false := by simp only [beq_eq_false_iff_ne, ne_eq]; omega
 have n21 : ((i : Int) == 21) = false := by simp only [beq_eq_false_iff_ne, ne_eq]; omega
 have n3 : ((i : Int) == 3) = false := by simp only [beq_eq_false_iff_ne, ne_eq]; omega
 have n12 : ((i : Int) == 12) = false := by simp only [beq_eq_false_iff_ne, ne_eq]; omega
 have n14 : ((i : Int) == 14) = false := by simp only [beq_eq_false_iff_ne, ne_eq]; omega
 have n15 : ((i : Int) == 15) = false := by simp only [beq_eq_false_iff_ne, ne_eq]; omega
 have n16 : ((i : Int) == 16) = false := by simp only [beq_eq_false_iff_ne, ne_eq]; omega
 have n17 : ((i : Int) == 17) = false := by simp only [beq_eq_false_iff_ne, ne_eq]; omega
 have n18 : ((i : Int) == 18) = false := by simp only [beq_eq_false_iff_ne, ne_eq]; omega
 have n19 : ((i : Int) == 19) = false := by simp only [beq_eq_false_iff_ne, ne_eq]; omega
 have n20 : ((i : Int) == 20) = false := by simp only [beq_eq_false_iff_ne, ne_eq]; omega
 clear j0 j21 j3 j12 j14 j15 j16 j17 j18 j19 j20 h1v
 obtain ⟨t, ht⟩ : ∃ t, t = (effI i).1 := ⟨_, rfl⟩
 obtain ⟨gv, hgv⟩ : ∃ gv, gv = (effI i).2 := ⟨_, rfl⟩
 have HO := Hid.mk (HO.out t gv ht hgv)
 rw [← ht, ← hgv] at HT hgv1
 obtain ⟨ht2, hg2⟩ := hgv1
 have HT := Hid.mk HT
 have HT2 := Hid.mk ht
 have HG2 := Hid.mk hgv
 have HL := Hid.mk hL
 clear c1 c2 c3 c4 ht hgv hx hF hL hG
 go_enter Tryz.func101, Tryz.ntmps101
 go_wp2_with fail
 go_region_held3 (fun V => V.cell? ⟨p, 1, none⟩ = some (.slice (some ⟨b, o, none⟩) B.pg.code.length d) ∧ V.cell? ⟨p, 7, none⟩ = some (Iv_N (m.at_ : Int)) ∧ V.cell? ⟨b, o + m.at_ * 2, none⟩ = some (.int .i64 (i : Int)) ∧ V.cell? ⟨b, o + m.at_ * 2 + 1, none⟩ = some (.int .i64 arg)) (first | exact SP.out _ (Kept.refl [] _).drew | exact SP.out _ ((Kept.refl [] _).alloc _).drew) (fail)
 obtain ⟨W2, e2⟩ : ∃ W2, (w.alloc (.cells #[.int .i64 (i : Int), .int .i64 arg] 108)).drew = W2 := ⟨_, rfl⟩
 rw [e2]
 have k2 : Kept [] w W2 := by rw [← e2]; exact ((Kept.refl [] _).alloc _).drew
 have hb2 : W2.heap[w.heap.size]? = some (.cells #[.int .i64 (i : Int), .int .i64 arg] 108) := by rw [← e2]; exact heap_alloc_new w _
 have h2 := h.keep k2
 have hpg : p ≠ w.heap.size := Nat.ne_of_lt (lt_of_block h.rs.box)
 clear e2 SP h
 generalize w.heap.size = g at *
 have c5 := h2.c_at
 have f5 := h2.rs.free 7
 have q3 : ((m.at_ + 1 : Nat) : Int) = (m.at_ : Int) + 1 := by omega
 obtain ⟨W3, e3⟩ : ∃ W3, W2.setCell ⟨p, 7, none⟩ (Iv_N ((m.at_ : Int) + 1)) = W3 := ⟨_, rfl⟩
 have h3 := h2.put_at (m.at_ + 1)
 rw [q3, e3] at h3
 have k3 : Kept [p] W2 W3 := by rw [← e3]; exact (Kept.refl [p] W2).setCell (.inl (by simp)) _
 have hb3 := k3.keeps hb2 (by simpa using Ne.symm hpg)
 obtain ⟨z0, z1⟩ := cells2_N hb3
 have HB := Hid.mk hb3
 have HPG := Hid.mk hpg
 have HM := Hid.mk h3
 obtain ⟨sv3, ev3, sn3, tm3, h3⟩ := h3
 obtain ⟨sa, sc, rfl, -, -⟩ := h3.st.form
 have c8 : W3.cell? ⟨p, 8, none⟩ = some (.slice sa m.st.length sc) := by
  have := h3.c_st
  rw [rowJ_length] at this
  exact this
 have q5 : IntKind.i64.wrap ((m.st.length : Int) - (t : Int)) = (m.st.length : Int) - (t : Int) := w64_small _ (by omega)
 have q7 : IntKind.i64.wrap ((m.st.length : Int) - (t : Int) + (gv : Int)) = (m.st.length : Int) - (t : Int) + (gv : Int) := w64_small _ (by omega)
 clear h2 h3 hb2 hb3 k2 k3 q3 hpg hat q1
 by_cases hlt : m.st.length < t
 ·have hI : (m.st.length : Int) < (t : Int) := by omega
  have HO3 := Hid.mk (HO.out.trans (if_pos (.inl hlt)))
  clear HO
  go_wp2_with (go_at_call 129; refine (HT.out _).mono ?_; rintro e w9 ⟨rfl, rfl⟩)
  go_ret2
  exact ⟨_, _, rfl, by rw [HO3.out]; exact ⟨rfl, rfl, _, HM.out⟩⟩
 by_cases hgt : 16 < m.st.length - t + gv
 ·have hI : ¬ (m.st.length : Int) < (t : Int) := by omega
  have hI2 : (16 : Int) < (m.st.length : Int) - (t : Int) + (gv : Int) := by omega
  have HO3 := Hid.mk (HO.out.trans (if_pos (.inr hgt)))
  clear HO
  go_wp2_with (go_at_call 129; refine (HT.out _).mono ?_; rintro e w9 ⟨rfl, rfl⟩)
  go_ret2
  exact ⟨_, _, rfl, by rw [HO3.out]; exact ⟨rfl, rfl, _, HM.out⟩⟩
 have hI : ¬ (m.st.length : Int) < (t : Int) := by omega
 have hI2 : ¬ (16 : Int) < (m.st.length : Int) - (t : Int) + (gv : Int) := by omega
 have HO3 := Hid.mk (HO.out.trans (if_neg (by omega)))
 clear HO
 obtain ⟨rfl, -⟩ := HAc.out _ HG2.out
 have hG3 : t = 0 ∨ t = 1 ∨ t = 2 := by omega
 rcases hG3 with rfl | rfl | rfl
 ·have HO4 := Hid.mk (HO3.out.trans ((if_neg (by omega)).trans (if_neg (by omega))))
  have hl9 : m.st.length ≤ 16 := hst
  have HL9 := Hid.mk hl9
  clear hl9
  go_wp2_with (first | (go_at_call 129; refine (HT.out _).mono ?_; rintro e w9 ⟨rfl, rfl⟩) | (go_at_call 133; refine (HV.out _ _ 0 0 HM.out).mono ?_; rintro e w7 ⟨rfl, k7⟩) | (go_at_call 131; refine (push37 (FSt.keep HM.out k7) _ (by show m.st.length ≤ 900; have := HL9.out; omega)).mono ?_; rintro e w8 ⟨rfl, h8⟩))
  go_ret2
  exact ⟨_, _, rfl, by rw [HO4.out, (HAc.out _ HG2.out).2]; exact ⟨rfl, rfl, h8⟩⟩
 ·have HO4 := Hid.mk (HO3.out.trans ((if_neg (by omega)).trans (if_pos rfl)))
  have hne : m.st ≠ [] := fun e => hlt (by rw [e]; simp)
  have HPO := Hid.mk (pop36 HM.out hne (by show m.st.length ≤ 900; omega))
  have hl9 : m.st.dropLast.length ≤ 16 := by simp; omega
  clear hne
  dsimp only at HPO
  have HL9 := Hid.mk hl9
  clear hl9
  generalize m.st.getLastD 0 = x at *
  go_wp2_with (first | (go_at_call 129; refine (HT.out _).mono ?_; rintro e w9 ⟨rfl, rfl⟩) | (go_at_call 130; refine HPO.out.mono ?_; rintro e w5 ⟨rfl, h5, k5⟩; have hb6 := k5.keeps HB.out (by simpa using Ne.symm HPG.out); have t0 := (cells2_N hb6).1; have t1 := (cells2_N hb6).2) | (go_at_call 133; refine (HV.out _ _ x 0 h5).mono ?_; rintro e w7 ⟨rfl, k7⟩) | (go_at_call 131; refine (push37 (FSt.keep h5 k7) _ (by show m.st.dropLast.length ≤ 900; have := HL9.out; omega)).mono ?_; rintro e w8 ⟨rfl, h8⟩))
  go_ret2
  exact ⟨_, _, rfl, by rw [HO4.out, (HAc.out _ HG2.out).2]; exact ⟨rfl, rfl, h8⟩⟩
 ·have HO4 := Hid.mk (HO3.out.trans (if_pos rfl))
  have hne : m.st ≠ [] := fun e => hlt (by rw [e]; simp)
  have hdl : m.st.dropLast.length = m.st.length - 1 := by simp
  have hne2 : m.st.dropLast ≠ [] := fun e => by rw [e] at hdl; simp at hdl; omega
  have HPO := Hid.mk (pop36 HM.out hne (by show m.st.length ≤ 900; omega))
  have HP2 : Hid (∀ W, FSt B W p { m with at_ := m.at_ + 1, st := m.st.dropLast } k → Calls Tryz.prog 130 #[.pointer (some ⟨p, 0, none⟩)] W fun e w' => e = .returned (.int .i64 (m.st.dropLast.getLastD 0)) ∧ FSt B w' p { m with at_ := m.at_ + 1, st := m.st.dropLast.dropLast } k ∧ Kept [p] W w') := Hid.mk (fun W hW => pop36 hW hne2 (by show m.st.dropLast.length ≤ 900; omega))
  have hl9 : m.st.dropLast.dropLast.length ≤ 16 := by simp; omega
  clear hne hne2 hdl
  dsimp only at HPO
  have HL9 := Hid.mk hl9
  clear hl9
  generalize m.st.getLastD 0 = y at *
  generalize m.st.dropLast.getLastD 0 = x at *
  go_wp2_with (first | (go_at_call 129; refine (HT.out _).mono ?_; rintro e w9 ⟨rfl, rfl⟩) | (go_at_call 130; with_reducible refine HPO.out.mono ?_; rintro e w5 ⟨rfl, h5, k5⟩) | (go_at_call 130; refine (HP2.out w5 h5).mono ?_; rintro e w6 ⟨rfl, h6, k6⟩; have hb6 := k6.keeps (k5.keeps HB.out (by simpa using Ne.symm HPG.out)) (by simpa using Ne.symm HPG.out); have t0 := (cells2_N hb6).1; have t1 := (cells2_N hb6).2) | (go_at_call 133; refine (HV.out _ _ x y h6).mono ?_; rintro e w7 ⟨rfl, k7⟩) | (go_at_call 131; refine (push37 (FSt.keep h6 k7) _ (by show m.st.dropLast.dropLast.length ≤ 900; have := HL9.out; omega)).mono ?_; rintro e w8 ⟨rfl, h8⟩))
  go_ret2
  exact ⟨_, _, rfl, by rw [HO4.out, (HAc.out _ HG2.out).2]; exact ⟨rfl, rfl, h8⟩⟩
end
end Go.Proofs.YtngnenbidpojeaaGreatDoor
