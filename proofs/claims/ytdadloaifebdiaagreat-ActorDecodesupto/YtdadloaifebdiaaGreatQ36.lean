import Derived.Test.YtdadloaifebdiaaGreatQ23
import Derived.Test.YtdadloaifebdiaaGreatQ35
/-
  readParts of an actor: the walk.
-/
namespace Go.Proofs.YtdadloaifebdiaaGreat
set_option maxRecDepth 100000
open Go.RowKit
set_option linter.unusedVariables false
theorem rtext_le (l : List UInt8) (bad : Bool) : (rtext l bad).1.length ≤ l.length ∧ (rtext l bad).2.1.length ≤ l.length := by
  have h : (rnum l bad).2.1.length ≤ l.length := by
    unfold rnum
    split
    · simp
    · simp
  unfold rtext
  split
  · simp
  · rename_i h2
    simp only [List.length_take, List.length_drop]
    omega
section
variable {w0 w : World} {v : Value} {l : List UInt8}
theorem part_J (hr : Reads w v l) (hl : l.length ≤ 3000000) (hs : w0.heap.size ≤ w.heap.size) : Calls Tryz.prog 72 #[v] w fun e w' => ∃ X n, e = .returned (.tuple #[X, .int .i64 n]) ∧ PJ w0 w' X n (decJn l) ∧ Kept [] w w' := by
  refine (decode23 v l hr (by omega)).mono ?_
  rintro e w' (⟨h, rfl, k⟩ | ⟨p, j, h, rfl, hJ, k, hp⟩)
  · exact ⟨_, _, rfl, .inl ⟨h, rfl, rfl⟩, k⟩
  · exact ⟨_, _, rfl, .inr ⟨p, j, h, rfl, rfl, hJ, by omega⟩, k⟩
theorem part_I (hr : Reads w v l) (hl : l.length ≤ 3000000) (hs : w0.heap.size ≤ w.heap.size) : Calls Tryz.prog 74 #[v] w fun e w' => ∃ X n, e = .returned (.tuple #[X, .int .i64 n]) ∧ PI w0 w' X n (decB l) ∧ Kept [] w w' := by
  refine (decode19_I v l hr hl).mono ?_
  rintro e w' (⟨h, rfl, k⟩ | ⟨p, qs, h, rfl, hB, hp, -, k⟩)
  · exact ⟨_, _, rfl, .inl ⟨h, rfl, rfl⟩, k⟩
  · exact ⟨_, _, rfl, .inr ⟨p, qs, h, rfl, rfl, hB, by omega⟩, k⟩
theorem part_O (hr : Reads w v l) (hl : l.length ≤ 3000000) (hs : w0.heap.size ≤ w.heap.size) : Calls Tryz.prog 75 #[v] w fun e w' => ∃ X n, e = .returned (.tuple #[X, .int .i64 n]) ∧ PO w0 w' X n (decO l) ∧ Kept [] w w' := by
  refine (decode16 v l hr (by omega)).mono ?_
  rintro e w' (⟨h, rfl, k⟩ | ⟨p, b, ys, h, rfl, hO, hm, k, hp⟩)
  · exact ⟨_, _, rfl, .inl ⟨h, rfl, rfl⟩, k⟩
  · exact ⟨_, _, rfl, .inr ⟨p, b, ys, h, rfl, rfl, hO, hm, by omega⟩, k⟩
theorem part_P (hr : Reads w v l) (hl : l.length ≤ 3000000) (hs : w0.heap.size ≤ w.heap.size) : Calls Tryz.prog 76 #[v] w fun e w' => ∃ X n, e = .returned (.tuple #[X, .int .i64 n]) ∧ PP w0 w' X n (decP l) ∧ Kept [] w w' := by
  refine (unpack22 v l hr hl).mono ?_
  rintro e w' ⟨X, qs, rfl, hm, hO, k⟩
  exact ⟨_, _, rfl, ⟨rfl, w, qs, hO, hm⟩, k⟩
end
/-- What readParts leaves. -/
def AllP (w0 : World) (l : List UInt8) (bad : Bool) (X0 X1 X2 X4 : Value) (e0 e1 e2 e3 : Int) (W : World) : Prop :=
  PJ w0 W X0 e0 (decJn (rtext l bad).1) ∧ PI w0 W X1 e1 (decB (rtext (rtext l bad).2.1 (rtext l bad).2.2).1) ∧
  PO w0 W X2 e2 (decO (rtext (rtext (rtext l bad).2.1 (rtext l bad).2.2).2.1 (rtext (rtext l bad).2.1 (rtext l bad).2.2).2.2).1) ∧
  PP w0 W X4 e3 (decP (rtext (rtext (rtext (rtext l bad).2.1 (rtext l bad).2.2).2.1 (rtext (rtext l bad).2.1 (rtext l bad).2.2).2.2).2.1 (rtext (rtext (rtext l bad).2.1 (rtext l bad).2.2).2.1 (rtext (rtext l bad).2.1 (rtext l bad).2.2).2.2).2.2).1)
section
variable {w0 w : World} {p q : Nat} {t : Int} {l : List UInt8} {bad : Bool}
set_option maxHeartbeats 8000000 in
theorem read18 (hb : w.heap[p]? = some (.cells #[.pointer none, .pointer none, .pointer none, Iv t, .slice none 0 0] 53 (0, 0))) (hr : ∃ v, IsR 122 w q v l bad ∧ v.ownBlock ≠ some p ∧ ∀ g, v.ownBlock = some g → g < w.heap.size) (hp : w0.heap.size ≤ p) (hq : w0.heap.size ≤ q) (hk : Kept [] w0 w) (hl : l.length ≤ 3000000) :
    Calls Tryz.prog 18 #[Ptr p, Ptr q] w fun e w' => ∃ g X0 X1 X2 X4 e0 e1 e2 e3 l' bad', e = .returned (.bool (decide (e0 = 0) && decide (e1 = 0) && decide (e2 = 0) && decide (e3 = 0))) ∧ RP (AllP w0 l bad X0 X1 X2 X4 e0 e1 e2 e3) w0 w' p g q X0 X1 X2 t X4 e0 e1 e2 e3 l' bad' ∧
      (l', bad') = (rtext (rtext (rtext (rtext l bad).2.1 (rtext l bad).2.2).2.1 (rtext (rtext l bad).2.1 (rtext l bad).2.2).2.2).2.1 (rtext (rtext (rtext l bad).2.1 (rtext l bad).2.2).2.1 (rtext (rtext l bad).2.1 (rtext l bad).2.2).2.2).2.2).2 := by
  obtain ⟨v, hv1, hv2, hv3⟩ := hr
  obtain ⟨w1, ee1, k1, z1, b1⟩ := box1 w (.cells #[.int .i64 0, .int .i64 0, .int .i64 0, .int .i64 0] 125)
  have HRP : Hid (RP (fun _ => True) w0 w1 p w.heap.size q (.pointer none) (.pointer none) (.pointer none) t (.slice none 0 0) 0 0 0 0 l bad) := Hid.mk ⟨k1.keeps hb (by simp), b1, ⟨v, hv1.kept k1 (by simp) (by simp), hv2, fun e => by have := hv3 _ e; omega⟩, hp, hk.size, hq, hk.trans k1 (by simp), trivial⟩
  have HSt : Hid (Stays w0 (fun _ => True)) := Hid.mk fun w w' ts T ht h => trivial
  have hw := Hid.mk hk.size
  clear hb hv1 hv2 hv3 hp hq hk k1 z1 b1
  go_enter Tryz.func18, Tryz.ntmps18
  go_wp2_with fail
  clear ee1
  generalize w.heap.size = g at *
  obtain ⟨t1, ht1⟩ : ∃ x, Hid (rtext l bad = x) := ⟨_, Hid.mk rfl⟩
  obtain ⟨t2, ht2⟩ : ∃ x, Hid (rtext t1.2.1 t1.2.2 = x) := ⟨_, Hid.mk rfl⟩
  obtain ⟨t3, ht3⟩ : ∃ x, Hid (rtext t2.2.1 t2.2.2 = x) := ⟨_, Hid.mk rfl⟩
  obtain ⟨t4, ht4⟩ : ∃ x, Hid (rtext t3.2.1 t3.2.2 = x) := ⟨_, Hid.mk rfl⟩
  have hlen : Hid (t1.1.length ≤ 3000000 ∧ t2.1.length ≤ 3000000 ∧ t3.1.length ≤ 3000000 ∧ t4.1.length ≤ 3000000) := Hid.mk (by
    have a1 := rtext_le l bad
    rw [ht1.out] at a1
    have a2 := rtext_le t1.2.1 t1.2.2
    rw [ht2.out] at a2
    have a3 := rtext_le t2.2.1 t2.2.2
    rw [ht3.out] at a3
    have a4 := rtext_le t3.2.1 t3.2.2
    rw [ht4.out] at a4
    omega)
  have HC1 := Hid.mk (rp_text HSt.out HRP.out)
  rw [ht1.out] at HC1
  clear HRP
  go_wp2_with fail
  refine HC1.out.mono ?_
  rintro e wa ⟨rfl, ra⟩
  obtain ⟨cp, wb, hrun, hRd, kb, -⟩ := bytes_of wa t1.1 (by have := hlen.out.1; unfold maxLen; omega)
  have rb := ra.kept0 HSt.out kb
  have HD := Hid.mk (part_J (w0 := w0) hRd hlen.out.1 rb.k.size)
  have HRB := Hid.mk rb
  clear ra rb hRd kb HC1
  go_wp2_with fail
  refine HD.out.mono ?_
  rintro e wc ⟨X1, n1, rfl, hP, kc⟩
  obtain ⟨xo1, rfl⟩ := hP.form
  have rc := (HRB.out.kept0 HSt.out kc).more (B := fun W => PJ w0 W (.pointer xo1) n1 (decJn t1.1)) hP
  have st' := HSt.out.and (B := fun W => PJ w0 W (.pointer xo1) n1 (decJn t1.1)) (fun w w' ts T ht h => PJ.turn h T ht)
  have c1 := rc.cells
  have z1 := rc.freeP 0
  have rd := rc.setP st' 0 (.pointer xo1) rfl
  have c2 := rd.cellsE
  have z2 := rd.freeE 0
  have HRP := Hid.mk (rd.setE st' 0 n1 rfl)
  have HSt := Hid.mk st'
  obtain ⟨c10, c11, c12, c13, c14⟩ := c1
  obtain ⟨c20, c21, c22, c23⟩ := c2
  clear rc rd st' HRB HD hP kc hrun
  go_wp2_with fail
  generalize (wc.setCell ⟨p, 0, none⟩ (.pointer xo1)).setCell ⟨g, 0, none⟩ (Iv n1) = wd1 at HRP ⊢
  clear z1 z2 c10 c11 c12 c13 c14 c20 c21 c22 c23
  have HC2 := Hid.mk (rp_text HSt.out HRP.out)
  rw [ht2.out] at HC2
  clear HRP
  go_wp2_with fail
  refine HC2.out.mono ?_
  rintro e wa ⟨rfl, ra⟩
  obtain ⟨cp, wb, hrun, hRd, kb, -⟩ := bytes_of wa t2.1 (by have := hlen.out.2.1; unfold maxLen; omega)
  have rb := ra.kept0 HSt.out kb
  have HD := Hid.mk (part_I (w0 := w0) hRd hlen.out.2.1 rb.k.size)
  have HRB := Hid.mk rb
  clear ra rb hRd kb HC2
  go_wp2_with fail
  refine HD.out.mono ?_
  rintro e wc ⟨X2, n2, rfl, hP, kc⟩
  obtain ⟨xo2, rfl⟩ := hP.form
  have rc := (HRB.out.kept0 HSt.out kc).more (B := fun W => PI w0 W (.pointer xo2) n2 (decB t2.1)) hP
  have st' := HSt.out.and (B := fun W => PI w0 W (.pointer xo2) n2 (decB t2.1)) (fun w w' ts T ht h => PI.turn h T ht)
  have c1 := rc.cells
  have z1 := rc.freeP 1
  have rd := rc.setP st' 1 (.pointer xo2) rfl
  have c2 := rd.cellsE
  have z2 := rd.freeE 1
  have HRP := Hid.mk (rd.setE st' 1 n2 rfl)
  have HSt := Hid.mk st'
  obtain ⟨c10, c11, c12, c13, c14⟩ := c1
  obtain ⟨c20, c21, c22, c23⟩ := c2
  clear rc rd st' HRB HD hP kc hrun
  go_wp2_with fail
  generalize (wc.setCell ⟨p, 1, none⟩ (.pointer xo2)).setCell ⟨g, 1, none⟩ (Iv n2) = wd2 at HRP ⊢
  clear z1 z2 c10 c11 c12 c13 c14 c20 c21 c22 c23
  have HC3 := Hid.mk (rp_text HSt.out HRP.out)
  rw [ht3.out] at HC3
  clear HRP
  go_wp2_with fail
  refine HC3.out.mono ?_
  rintro e wa ⟨rfl, ra⟩
  obtain ⟨cp, wb, hrun, hRd, kb, -⟩ := bytes_of wa t3.1 (by have := hlen.out.2.2.1; unfold maxLen; omega)
  have rb := ra.kept0 HSt.out kb
  have HD := Hid.mk (part_O (w0 := w0) hRd hlen.out.2.2.1 rb.k.size)
  have HRB := Hid.mk rb
  clear ra rb hRd kb HC3
  go_wp2_with fail
  refine HD.out.mono ?_
  rintro e wc ⟨X3, n3, rfl, hP, kc⟩
  obtain ⟨xo3, rfl⟩ := hP.form
  have rc := (HRB.out.kept0 HSt.out kc).more (B := fun W => PO w0 W (.pointer xo3) n3 (decO t3.1)) hP
  have st' := HSt.out.and (B := fun W => PO w0 W (.pointer xo3) n3 (decO t3.1)) (fun w w' ts T ht h => PO.turn h T ht)
  have c1 := rc.cells
  have z1 := rc.freeP 2
  have rd := rc.setP st' 2 (.pointer xo3) rfl
  have c2 := rd.cellsE
  have z2 := rd.freeE 2
  have HRP := Hid.mk (rd.setE st' 2 n3 rfl)
  have HSt := Hid.mk st'
  obtain ⟨c10, c11, c12, c13, c14⟩ := c1
  obtain ⟨c20, c21, c22, c23⟩ := c2
  clear rc rd st' HRB HD hP kc hrun
  go_wp2_with fail
  generalize (wc.setCell ⟨p, 2, none⟩ (.pointer xo3)).setCell ⟨g, 2, none⟩ (Iv n3) = wd3 at HRP ⊢
  clear z1 z2 c10 c11 c12 c13 c14 c20 c21 c22 c23
  have HC4 := Hid.mk (rp_text HSt.out HRP.out)
  rw [ht4.out] at HC4
  clear HRP
  go_wp2_with fail
  refine HC4.out.mono ?_
  rintro e wa ⟨rfl, ra⟩
  obtain ⟨cp, wb, hrun, hRd, kb, -⟩ := bytes_of wa t4.1 (by have := hlen.out.2.2.2; unfold maxLen; omega)
  have rb := ra.kept0 HSt.out kb
  have HD := Hid.mk (part_P (w0 := w0) hRd hlen.out.2.2.2 rb.k.size)
  have HRB := Hid.mk rb
  clear ra rb hRd kb HC4
  go_wp2_with fail
  refine HD.out.mono ?_
  rintro e wc ⟨X4, n4, rfl, hP, kc⟩
  obtain ⟨xa, xn, xc, rfl⟩ := hP.form
  have rc := (HRB.out.kept0 HSt.out kc).more (B := fun W => PP w0 W (.slice xa xn xc) n4 (decP t4.1)) hP
  have st' := HSt.out.and (B := fun W => PP w0 W (.slice xa xn xc) n4 (decP t4.1)) (fun w w' ts T ht h => PP.turn h T ht)
  have c1 := rc.cells
  have z1 := rc.freeP 4
  have rd := rc.setP st' 4 (.slice xa xn xc) rfl
  have c2 := rd.cellsE
  have z2 := rd.freeE 3
  have HRP := Hid.mk (rd.setE st' 3 n4 rfl)
  have HSt := Hid.mk st'
  obtain ⟨c10, c11, c12, c13, c14⟩ := c1
  obtain ⟨c20, c21, c22, c23⟩ := c2
  clear rc rd st' HRB HD hP kc hrun
  go_wp2_with fail
  generalize (wc.setCell ⟨p, 4, none⟩ (.slice xa xn xc)).setCell ⟨g, 3, none⟩ (Iv n4) = wd4 at HRP ⊢
  clear z1 z2 c10 c11 c12 c13 c14 c20 c21 c22 c23
  obtain ⟨c20, c21, c22, c23⟩ := HRP.out.cellsE
  go_wp2_with fail
  rw [errs4 n1 n2 n3 n4]
  go_simp
  go_wp2_with fail
  go_ret
  refine ⟨g, .pointer xo1, .pointer xo2, .pointer xo3, .slice xa xn xc, n1, n2, n3, n4, t4.2.1, t4.2.2, rfl, ?_, ?_⟩
  · obtain ⟨q1, q2, q3, q4, q5, q6, q7, ⟨⟨⟨-, a1⟩, a2⟩, a3⟩, a4⟩ := HRP.out
    refine ⟨q1, q2, q3, q4, q5, q6, q7, ?_⟩
    unfold AllP
    rw [ht1.out, ht2.out, ht3.out, ht4.out]
    exact ⟨a1, a2, a3, a4⟩
  · rw [ht1.out, ht2.out, ht3.out, ht4.out]
end
end Go.Proofs.YtdadloaifebdiaaGreat
