import Derived.Test.YtngnenbidpojeaaGreatDoorCards
import Derived.Test.YtngnenbidpojeaaGreatDoorTie
import Derived.Test.YtngnenbidpojeaaGreatDoorRows
import Derived.ProofKit
import Derived.LaidLaws
import Derived.Deep.DeepHandedRow
import Derived.Deep.DeepWitnessRowRef
import Derived.ChangeSlices
import Derived.Test.YtngnenbidpojeaaGreatDoorV16
import Derived.Test.YtngnenbidpojeaaGreatDoorV24
import Derived.Test.YtngnenbidpojeaaGreatDoorV27
import Derived.Test.YtngnenbidpojeaaGreatDoorV41
import Derived.Test.YtngnenbidpojeaaGreatDoorV42
/-
  readParts of an actor: the walk.
-/
namespace Go.Proofs.YtngnenbidpojeaaGreatDoor
set_option maxRecDepth 100000
open Go.RowKit
set_option linter.unusedVariables false
theorem rtext_le (l : List UInt8) (bad : Bool) : (rtext l bad).1.length ≤ l.length ∧ (rtext l bad).2.1.length ≤ l.length := by
  have h : (rnum l bad).2.1.length ≤ l.length := by
    unfold rnum
    split
    · simp
    · simp
  unfold rtext
  split
  · simp
  · rename_i h2
    simp only [List.length_take, List.length_drop]
    omega
section
variable {w0 w : World} {v : Value} {l : List UInt8}
theorem part_J (hr : Reads w v l) (hl : l.length ≤ 3000000) (hs : w0.heap.size ≤ w.heap.size) : Calls Tryz.prog 115 #[v] w fun e w' => ∃ X n, e = .returned (.tuple #[X, .int .i64 n]) ∧ PJ w0 w' X n (decJn l) ∧ Kept [] w w' := by
  refine (decode23 v l hr (by omega)).mono ?_
  rintro e w' (⟨h, rfl, k⟩ | ⟨p, j, h, rfl, hJ, k, hp⟩)
  · exact ⟨_, _, rfl, .inl ⟨h, rfl, rfl⟩, k⟩
  · exact ⟨_, _, rfl, .inr ⟨p, j, h, rfl, rfl, hJ, by omega⟩, k⟩
theorem part_I (hr : Reads w v l) (hl : l.length ≤ 3000000) (hs : w0.heap.size ≤ w.heap.size) : Calls Tryz.prog 117 #[v] w fun e w' => ∃ X n, e = .returned (.tuple #[X, .int .i64 n]) ∧ PI w0 w' X n (decB l) ∧ Kept [] w w' := by
  refine (decode19 v l hr hl).mono ?_
  rintro e w' (⟨h, rfl, k⟩ | ⟨p, qs, h, rfl, hB, hp, -, k⟩)
  · exact ⟨_, _, rfl, .inl ⟨h, rfl, rfl⟩, k⟩
  · exact ⟨_, _, rfl, .inr ⟨p, qs, h, rfl, rfl, hB, by omega⟩, k⟩
theorem part_O (hr : Reads w v l) (hl : l.length ≤ 3000000) (hs : w0.heap.size ≤ w.heap.size) : Calls Tryz.prog 118 #[v] w fun e w' => ∃ X n, e = .returned (.tuple #[X, .int .i64 n]) ∧ PO w0 w' X n (decO l) ∧ Kept [] w w' := by
  refine (decode16 v l hr (by omega)).mono ?_
  rintro e w' (⟨h, rfl, k⟩ | ⟨p, b, ys, h, rfl, hO, hm, k, hp⟩)
  · exact ⟨_, _, rfl, .inl ⟨h, rfl, rfl⟩, k⟩
  · exact ⟨_, _, rfl, .inr ⟨p, b, ys, h, rfl, rfl, hO, hm, by omega⟩, k⟩
theorem part_P (hr : Reads w v l) (hl : l.length ≤ 3000000) (hs : w0.heap.size ≤ w.heap.size) : Calls Tryz.prog 119 #[v] w fun e w' => ∃ X n, e = .returned (.tuple #[X, .int .i64 n]) ∧ PP w0 w' X n (decP l) ∧ Kept [] w w' := by
  refine (unpack22 v l hr hl).mono ?_
  rintro e w' ⟨X, qs, rfl, hm, hO, k⟩
  exact ⟨_, _, rfl, ⟨rfl, w, qs, hO, hm⟩, k⟩
end
/-- What readParts leaves. -/
def AllP (w0 : World) (l : List UInt8) (bad : Bool) (X0 X1 X2 X4 : Value) (e0 e1 e2 e3 : Int) (W : World) : Prop :=
  PJ w0 W X0 e0 (decJn (rtext l bad).1) ∧ PI w0 W X1 e1 (decB (rtext (rtext l bad).2.1 (rtext l bad).2.2).1) ∧
  PO w0 W X2 e2 (decO (rtext (rtext (rtext l bad).2.1 (rtext l bad).2.2).2.1 (rtext (rtext l bad).2.1 (rtext l bad).2.2).2.2).1) ∧
  PP w0 W X4 e3 (decP (rtext (rtext (rtext (rtext l bad).2.1 (rtext l bad).2.2).2.1 (rtext (rtext l bad).2.1 (rtext l bad).2.2).2.2).2.1 (rtext (rtext (rtext l bad).2.1 (rtext l bad).2.2).2.1 (rtext (rtext l bad).2.1 (rtext l bad).2.2).2.2).2.2).1)
section
variable {w0 w : World} {p q : Nat} {t : Int} {l : List UInt8} {bad : Bool}
set_option maxHeartbeats 8000000 in
theorem read18 (hb : w.heap[p]? = some (.cells #[.pointer none, .pointer none, .pointer none, Iv t, .slice none 0 0] 66 (0, 0))) (hr : ∃ v, IsR 212 w q v l bad ∧ v.ownBlock ≠ some p ∧ ∀ g, v.ownBlock = some g → g < w.heap.size) (hp : w0.heap.size ≤ p) (hq : w0.heap.size ≤ q) (hk : Kept [] w0 w) (hl : l.length ≤ 3000000) :
    Calls Tryz.prog 72 #[Ptr p, Ptr q] w fun e w' => ∃ g X0 X1 X2 X4 e0 e1 e2 e3 l' bad', e = .returned (.bool (decide (e0 = 0) && decide (e1 = 0) && decide (e2 = 0) && decide (e3 = 0))) ∧ RP (AllP w0 l bad X0 X1 X2 X4 e0 e1 e2 e3) w0 w' p g q X0 X1 X2 t X4 e0 e1 e2 e3 l' bad' ∧
      (l', bad') = (rtext (rtext (rtext (rtext l bad).2.1 (rtext l bad).2.2).2.1 (rtext (rtext l bad).2.1 (rtext l bad).2.2).2.2).2.1 (rtext (rtext (rtext l bad).2.1 (rtext l bad).2.2).2.1 (rtext (rtext l bad).2.1 (rtext l bad).2.2).2.2).2.2).2 := by
  obtain ⟨v, hv1, hv2, hv3⟩ := hr
  obtain ⟨w1, ee1, k1, z1, b1⟩ := box1 w (.cells #[.int .i64 0, .int .i64 0, .int .i64 0, .int .i64 0] 215)
  have HRP : Hid (RP (fun _ => True) w0 w1 p w.heap.size q (.pointer none) (.pointer none) (.pointer none) t (.slice none 0 0) 0 0 0 0 l bad) := Hid.mk ⟨k1.keeps hb (by simp), b1, ⟨v, hv1.kept k1 (by simp) (by simp), hv2, fun e => by have := hv3 _ e; omega⟩, hp, hk.size, hq, hk.trans k1 (by simp), trivial⟩
  have HSt : Hid (Stays w0 (fun _ => True)) := Hid.mk fun w w' ts T ht h => trivial
  have hw := Hid.mk hk.size
  clear hb hv1 hv2 hv3 hp hq hk k1 z1 b1
  go_enter Tryz.func72, Tryz.ntmps72
  go_wp2_with fail
  clear ee1
  generalize w.heap.size = g at *
  obtain ⟨t1, ht1⟩ : ∃ x, Hid (rtext l bad = x) := ⟨_, Hid.mk rfl⟩
  obtain ⟨t2, ht2⟩ : ∃ x, Hid (rtext t1.2.1 t1.2.2 = x) := ⟨_, Hid.mk rfl⟩
  obtain ⟨t3, ht3⟩ : ∃ x, Hid (rtext t2.2.1 t2.2.2 = x) := ⟨_, Hid.mk rfl⟩
  obtain ⟨t4, ht4⟩ : ∃ x, Hid (rtext t3.2.1 t3.2.2 = x) := ⟨_, Hid.mk rfl⟩
  have hlen : Hid (t1.1.length ≤ 3000000 ∧ t2.1.length ≤ 3000000 ∧ t3.1.length ≤ 3000000 ∧ t4.1.length ≤ 3000000) := Hid.mk (by
    have a1 := rtext_le l bad
    rw [ht1.out] at a1
    have a2 := rtext_le t1.2.1 t1.2.2
    rw [ht2.out] at a2
    have a3 := rtext_le t2.2.1 t2.2.2
    rw [ht3.out] at a3
    have a4 := rtext_le t3.2.1 t3.2.2
    rw [ht4.out] at a4
    omega)
  have HC1 := Hid.mk (rp_text HSt.out HRP.out)
  rw [ht1.out] at HC1
  clear HRP
  go_wp2_with fail
  refine HC1.out.mono ?_
  rintro e wa ⟨rfl, ra⟩
  obtain ⟨cp, wb, hrun, hRd, kb, -⟩ := bytes_of wa t1.1 (by have := hlen.out.1; unfold maxLen; omega)
  have rb := ra.kept0 HSt.out kb
  have HD := Hid.mk (part_J (w0 := w0) hRd hlen.out.1 rb.k.size)
  have HRB := Hid.mk rb
  clear ra rb hRd kb HC1
  go_wp2_with fail
  refine HD.out.mono ?_
  rintro e wc ⟨X1, n1, rfl, hP, kc⟩
  obtain ⟨xo1, rfl⟩ := hP.form
  have rc := (HRB.out.kept0 HSt.out kc).more (B := fun W => PJ w0 W (.pointer xo1) n1 (decJn t1.1)) hP
  have st' := HSt.out.and (B := fun W => PJ w0 W (.pointer xo1) n1 (decJn t1.1)) (fun w w' ts T ht h => PJ.turn h T ht)
  have c1 := rc.cells
  have z1 := rc.freeP 0
  have rd := rc.setP st' 0 (.pointer xo1) rfl
  have c2 := rd.cellsE
  have z2 := rd.freeE 0
  have HRP := Hid.mk (rd.setE st' 0 n1 rfl)
  have HSt := Hid.mk st'
  obtain ⟨c10, c11, c12, c13, c14⟩ := c1
  obtain ⟨c20, c21, c22, c23⟩ := c2
  clear rc rd st' HRB HD hP kc hrun
  go_wp2_with fail
  generalize (wc.setCell ⟨p, 0, none⟩ (.pointer xo1)).setCell ⟨g, 0, none⟩ (Iv n1) = wd1 at HRP ⊢
  clear z1 z2 c10 c11 c12 c13 c14 c20 c21 c22 c23
  have HC2 := Hid.mk (rp_text HSt.out HRP.out)
  rw [ht2.out] at HC2
  clear HRP
  go_wp2_with fail
  refine HC2.out.mono ?_
  rintro e wa ⟨rfl, ra⟩
  obtain ⟨cp, wb, hrun, hRd, kb, -⟩ := bytes_of wa t2.1 (by have := hlen.out.2.1; unfold maxLen; omega)
  have rb := ra.kept0 HSt.out kb
  have HD := Hid.mk (part_I (w0 := w0) hRd hlen.out.2.1 rb.k.size)
  have HRB := Hid.mk rb
  clear ra rb hRd kb HC2
  go_wp2_with fail
  refine HD.out.mono ?_
  rintro e wc ⟨X2, n2, rfl, hP, kc⟩
  obtain ⟨xo2, rfl⟩ := hP.form
  have rc := (HRB.out.kept0 HSt.out kc).more (B := fun W => PI w0 W (.pointer xo2) n2 (decB t2.1)) hP
  have st' := HSt.out.and (B := fun W => PI w0 W (.pointer xo2) n2 (decB t2.1)) (fun w w' ts T ht h => PI.turn h T ht)
  have c1 := rc.cells
  have z1 := rc.freeP 1
  have rd := rc.setP st' 1 (.pointer xo2) rfl
  have c2 := rd.cellsE
  have z2 := rd.freeE 1
  have HRP := Hid.mk (rd.setE st' 1 n2 rfl)
  have HSt := Hid.mk st'
  obtain ⟨c10, c11, c12, c13, c14⟩ := c1
  obtain ⟨c20, c21, c22, c23⟩ := c2
  clear rc rd st' HRB HD hP kc hrun
  go_wp2_with fail
  generalize (wc.setCell ⟨p, 1, none⟩ (.pointer xo2)).setCell ⟨g, 1, none⟩ (Iv n2) = wd2 at HRP ⊢
  clear z1 z2 c10 c11 c12 c13 c14 c20 c21 c22 c23
  have HC3 := Hid.mk (rp_text HSt.out HRP.out)
  rw [ht3.out] at HC3
  clear HRP
  go_wp2_with fail
  refine HC3.out.mono ?_
  rintro e wa ⟨rfl, ra⟩
  obtain ⟨cp, wb, hrun, hRd, kb, -⟩ := bytes_of wa t3.1 (by have := hlen.out.2.2.1; unfold maxLen; omega)
  have rb := ra.kept0 HSt.out kb
  have HD := Hid.mk (part_O (w0 := w0) hRd hlen.out.2.2.1 rb.k.size)
  have HRB := Hid.mk rb
  clear ra rb hRd kb HC3
  go_wp2_with fail
  refine HD.out.mono ?_
  rintro e wc ⟨X3, n3, rfl, hP, kc⟩
  obtain ⟨xo3, rfl⟩ := hP.form
  have rc := (HRB.out.kept0 HSt.out kc).more (B := fun W => PO w0 W (.pointer xo3) n3 (decO t3.1)) hP
  have st' := HSt.out.and (B := fun W => PO w0 W (.pointer xo3) n3 (decO t3.1)) (fun w w' ts T ht h => PO.turn h T ht)
  have c1 := rc.cells
  have z1 := rc.freeP 2
  have rd := rc.setP st' 2 (.pointer xo3) rfl
  have c2 := rd.cellsE
  have z2 := rd.freeE 2
  have HRP := Hid.mk (rd.setE st' 2 n3 rfl)
  have HSt := Hid.mk st'
  obtain ⟨c10, c11, c12, c13, c14⟩ := c1
  obtain ⟨c20, c21, c22, c23⟩ := c2
  clear rc rd st' HRB HD hP kc hrun
  go_wp2_with fail
  generalize (wc.setCell ⟨p, 2, none⟩ (.pointer xo3)).setCell ⟨g, 2, none⟩ (Iv n3) = wd3 at HRP ⊢
  clear z1 z2 c10 c11 c12 c13 c14 c20 c21 c22 c23
  have HC4 := Hid.mk (rp_text HSt.out HRP.out)
  rw [ht4.out] at HC4
  clear HRP
  go_wp2_with fail
  refine HC4.out.mono ?_
  rintro e wa ⟨rfl, ra⟩
  obtain ⟨cp, wb, hrun, hRd, kb, -⟩ := bytes_of wa t4.1 (by have := hlen.out.2.2.2; unfold maxLen; omega)
  have rb := ra.kept0 HSt.out kb
  have HD := Hid.mk (part_P (w0 := w0) hRd hlen.out.2.2.2 rb.k.size)
  have HRB := Hid.mk rb
  clear ra rb hRd kb HC4
  go_wp2_with fail
  refine HD.out.mono ?_
  rintro e wc ⟨X4, n4, rfl, hP, kc⟩
  obtain ⟨xa, xn, xc, rfl⟩ := hP.form
  have rc := (HRB.out.kept0 HSt.out kc).more (B := fun W => PP w0 W (.slice xa xn xc) n4 (decP t4.1)) hP
  have st' := HSt.out.and (B := fun W => PP w0 W (.slice xa xn xc) n4 (decP t4.1)) (fun w w' ts T ht h => PP.turn h T ht)
  have c1 := rc.cells
  have z1 := rc.freeP 4
  have rd := rc.setP st' 4 (.slice xa xn xc) rfl
  have c2 := rd.cellsE
  have z2 := rd.freeE 3
  have HRP := Hid.mk (rd.setE st' 3 n4 rfl)
  have HSt := Hid.mk st'
  obtain ⟨c10, c11, c12, c13, c14⟩ := c1
  obtain ⟨c20, c21, c22, c23⟩ := c2
  clear rc rd st' HRB HD hP kc hrun
  go_wp2_with fail
  generalize (wc.setCell ⟨p, 4, none⟩ (.slice xa xn xc)).setCell ⟨g, 3, none⟩ (Iv n4) = wd4 at HRP ⊢
  clear z1 z2 c10 c11 c12 c13 c14 c20 c21 c22 c23
  obtain ⟨c20, c21, c22, c23⟩ := HRP.out.cellsE
  go_wp2_with fail
  rw [errs4 n1 n2 n3 n4]
  go_simp
  go_wp2_with fail
  go_ret
  refine ⟨g, .pointer xo1, .pointer xo2, .pointer xo3, .slice xa xn xc, n1, n2, n3, n4, t4.2.1, t4.2.2, rfl, ?_, ?_⟩
  · obtain ⟨q1, q2, q3, q4, q5, q6, q7, ⟨⟨⟨-, a1⟩, a2⟩, a3⟩, a4⟩ := HRP.out
    refine ⟨q1, q2, q3, q4, q5, q6, q7, ?_⟩
    unfold AllP
    rw [ht1.out, ht2.out, ht3.out, ht4.out]
    exact ⟨a1, a2, a3, a4⟩
  · rw [ht1.out, ht2.out, ht3.out, ht4.out]
end
end Go.Proofs.YtngnenbidpojeaaGreatDoor
/-
  Decode of an actor.
-/
namespace Go.Proofs.YtngnenbidpojeaaGreatDoor
set_option maxRecDepth 100000
open Go.RowKit
set_option linter.unusedVariables false
theorem decB_iff {l : List UInt8} {i : List Lt} : decB l = some i ↔ decP l = some i ∧ i.length ≤ 8 := by
  unfold decB
  cases decP l with
  | none => simp
  | some m =>
    simp only [Option.bind_some, Option.some.injEq]
    split
    · rename_i h
      simp only [Option.some.injEq]
      constructor
      · rintro rfl; exact ⟨rfl, h⟩
      · rintro ⟨rfl, -⟩; rfl
    · rename_i h
      constructor
      · intro h'; cases h'
      · rintro ⟨rfl, h2⟩; exact absurd h2 h
theorem mkAc_b {n : Nat} {j : Option Jn} {l : List UInt8} {o : Option Ob} {p : Option (List Lt)} (h : decB l = none) : mkAc n j (decP l) o p = none := by
  cases hp : decP l with
  | none => exact mkAc_i
  | some i =>
    have h8 : ¬ i.length ≤ 8 := fun h8 => by rw [decB_iff.2 ⟨hp, h8⟩] at h; cases h
    cases j <;> cases o <;> cases p <;> first | rfl | (rw [mkAc_some, if_neg (fun h => h8 h.1)])
theorem allP_no {w0 W : World} {l : List UInt8} {X0 X1 X2 X4 : Value} {n : Nat} {e0 e1 e2 e3 : Int}
    (hA : AllP w0 (R0 l).2.1 (R0 l).2.2 X0 X1 X2 X4 e0 e1 e2 e3 W) (h : ¬ (e0 = 0 ∧ e1 = 0 ∧ e2 = 0 ∧ e3 = 0)) : mkAc n (decJn (R1 l).1) (decP (R2 l).1) (decO (R3 l).1) (decP (R4 l).1) = none := by
  obtain ⟨a1, a2, a3, a4⟩ := hA
  rcases a1 with ⟨h1, -, -⟩ | ⟨pj, j, hj, -, h0, -⟩
  · have h1 : decJn (R1 l).1 = none := h1
    rw [h1]; exact mkAc_j
  rcases a2 with ⟨h1, -, -⟩ | ⟨pi, qs, hi, -, h1, -⟩
  · exact mkAc_b h1
  rcases a3 with ⟨h1, -, -⟩ | ⟨po, b, ys, ho, -, h2, -⟩
  · have h1 : decO (R3 l).1 = none := h1
    rw [h1]; exact mkAc_o
  obtain ⟨a4, -⟩ := a4
  cases hp : decP (R4 l).1 with
  | none => exact mkAc_p
  | some ps =>
    have hp' : decP (rtext (rtext (rtext (rtext (R0 l).2.1 (R0 l).2.2).2.1 (rtext (R0 l).2.1 (R0 l).2.2).2.2).2.1 (rtext (rtext (R0 l).2.1 (R0 l).2.2).2.1 (rtext (R0 l).2.1 (R0 l).2.2).2.2).2.2).2.1 (rtext (rtext (rtext (R0 l).2.1 (R0 l).2.2).2.1 (rtext (R0 l).2.1 (R0 l).2.2).2.2).2.1 (rtext (rtext (R0 l).2.1 (R0 l).2.2).2.1 (rtext (R0 l).2.1 (R0 l).2.2).2.2).2.2).2.2).1 = some ps := hp
    rw [hp'] at a4
    exact absurd ⟨h0, h1, h2, a4⟩ h
theorem decAc_at {l : List UInt8} (h : (!(R4 l).2.2 && (R4 l).2.1.isEmpty) = true) : decAc l = mkAc (R0 l).1 (decJn (R1 l).1) (decP (R2 l).1) (decO (R3 l).1) (decP (R4 l).1) := by
  rw [← decR_eq, decR, if_pos h]
theorem decAc_bad {l : List UInt8} (h : (!(R4 l).2.2 && (R4 l).2.1.isEmpty) = false) : decAc l = none := by
  rw [← decR_eq, decR, if_neg (by rw [h]; simp)]
theorem decAc_no {l : List UInt8} (h : mkAc (R0 l).1 (decJn (R1 l).1) (decP (R2 l).1) (decO (R3 l).1) (decP (R4 l).1) = none) : decAc l = none := by
  rw [← decR_eq, decR, h]
  split <;> rfl
theorem dec_poi {l : List UInt8} {ps : List Lt} (h : decP l = some ps) : (ps.all fun x => x.formed) = true := by
  rw [List.all_eq_true]
  exact fun x hx => (decP_ok h x hx).2
section
variable {w : World}
end
end Go.Proofs.YtngnenbidpojeaaGreatDoor
/-
  Decode of an actor: its parts lie in new memory.
-/
namespace Go.Proofs.YtngnenbidpojeaaGreatDoor
set_option maxRecDepth 100000
open Go.RowKit
set_option linter.unusedVariables false
/-- What Decode answers. -/
def DecB (w : World) (l : List UInt8) (e : Ending) (w' : World) : Prop :=
  (decAc l = none ∧ e = .returned (.tuple #[.pointer none, .int .i64 2]) ∧ Kept [] w w') ∨
  ∃ p pj pi po a, decAc l = some a ∧ e = .returned (.tuple #[Ptr p, .int .i64 0]) ∧ AP w w' p pj pi po a ∧ Kept [] w w'
/-- The parts that were read, where all four are there. -/
theorem allP_yesB {w0 W : World} {l : List UInt8} {X0 X1 X2 X4 : Value} {p : Nat} {t : Int} {e0 e1 e2 e3 : Int}
    (hA : AllP w0 (R0 l).2.1 (R0 l).2.2 X0 X1 X2 X4 e0 e1 e2 e3 W) (hb : W.heap[p]? = some (.cells #[X0, X1, X2, Iv t, X4] 66 (0, 0))) (hp0 : w0.heap.size ≤ p) (h0 : e0 = 0) (h1 : e1 = 0) (h2 : e2 = 0) (h3 : e3 = 0) :
    ∃ a : Ac, decJn (R1 l).1 = some a.j ∧ decP (R2 l).1 = some a.inb ∧ decO (R3 l).1 = some a.out ∧ decP (R4 l).1 = some a.poi ∧ a.tries = t ∧ a.inb.length ≤ 8 ∧ ∃ pj pi po, AP w0 W p pj pi po a := by
  subst h0 h1 h2 h3
  obtain ⟨a1, a2, a3, a4⟩ := hA
  rcases a1 with ⟨-, -, h⟩ | ⟨pj, j, hj, rfl, -, hJ, hpj⟩
  · cases h
  rcases a2 with ⟨-, -, h⟩ | ⟨pi, qs, hi, rfl, -, hB, hpi⟩
  · cases h
  rcases a3 with ⟨-, -, h⟩ | ⟨po, b, ys, ho, rfl, -, hO, hm, hpo⟩
  · cases h
  obtain ⟨a4, w1, ms, hL, hms⟩ := a4
  cases hp : decP (R4 l).1 with
  | none =>
    have hp' : decP (rtext (rtext (rtext (rtext (R0 l).2.1 (R0 l).2.2).2.1 (rtext (R0 l).2.1 (R0 l).2.2).2.2).2.1 (rtext (rtext (R0 l).2.1 (R0 l).2.2).2.1 (rtext (R0 l).2.1 (R0 l).2.2).2.2).2.2).2.1 (rtext (rtext (rtext (R0 l).2.1 (R0 l).2.2).2.1 (rtext (R0 l).2.1 (R0 l).2.2).2.2).2.1 (rtext (rtext (R0 l).2.1 (R0 l).2.2).2.1 (rtext (R0 l).2.1 (R0 l).2.2).2.2).2.2).2.2).1 = none := hp
    rw [hp'] at a4
    cases a4
  | some ps =>
    have hp' : decP (rtext (rtext (rtext (rtext (R0 l).2.1 (R0 l).2.2).2.1 (rtext (R0 l).2.1 (R0 l).2.2).2.2).2.1 (rtext (rtext (R0 l).2.1 (R0 l).2.2).2.1 (rtext (R0 l).2.1 (R0 l).2.2).2.2).2.2).2.1 (rtext (rtext (rtext (R0 l).2.1 (R0 l).2.2).2.1 (rtext (R0 l).2.1 (R0 l).2.2).2.2).2.1 (rtext (rtext (R0 l).2.1 (R0 l).2.2).2.1 (rtext (R0 l).2.1 (R0 l).2.2).2.2).2.2).2.2).1 = some ps := hp
    rw [hp'] at hms
    have hms : ms.map (·.x) = ps := hms
    obtain ⟨hi1, hi8⟩ := decB_iff.1 hi
    obtain ⟨av, cv, rfl, -, -⟩ := hL.row.form
    have e : ms.length = ps.length := by rw [← hms, List.length_map]
    have hrow := hL.row
    rw [e] at hb hrow
    have hj : decJn (R1 l).1 = some j := hj
    have hi1 : decP (R2 l).1 = some (qs.map (fun q => q.x)) := hi1
    have ho : decO (R3 l).1 = some b := ho
    exact ⟨⟨j, qs.map (fun q => q.x), b, t, ps⟩, hj, hi1, ho, rfl, rfl, hi8, pj, pi, po, _, ⟨hb, hJ, ⟨qs, hB, rfl⟩, ⟨ys, hO, hm⟩, hp0, hpj, hpi, hpo⟩, ⟨ms, by have := hL.own; rw [e] at this; exact this, hL.args, hms⟩, ⟨(decJn_fwd hj).2, hi8, decP_ok hi1, (decO_fwd ho).2, fun x hx => (decP_ok hp x hx).1⟩⟩
section
variable {w : World}
set_option maxHeartbeats 4000000 in
theorem decode6B (v : Value) (l : List UInt8) (hr : Reads w v l) (hl : l.length ≤ 3000000) : Calls Tryz.prog 21 #[v] w fun e w' => DecB w l e w' := by
  have HN : Hid (∀ W, decAc l = none → Kept [] w W → DecB w l (.returned (.tuple #[.pointer none, .int .i64 2])) W) := Hid.mk fun W h k => .inl ⟨h, rfl, k⟩
  have HY : Hid (∀ W p a, decAc l = some a → (∃ pj pi po, AP w W p pj pi po a) → Kept [] w W → DecB w l (.returned (.tuple #[Ptr p, .int .i64 0])) W) := Hid.mk fun W p a h1 h2 h3 => by obtain ⟨pj, pi, po, h2⟩ := h2; exact .inr ⟨p, pj, pi, po, a, h1, rfl, h2, h3⟩
  generalize DecB w l = R at HN HY
  have HR := Hid.mk hr
  clear hr
  go_enter Tryz.func21, Tryz.ntmps21
  go_wp2_with fail
  refine (newr_in v l w HR.out (by omega)).mono ?_
  rintro e w1 ⟨q, v1, rfl, hR1, k1, hf1, hq1, hin1⟩
  have HC := Hid.mk (rnum_any q v1 l false w1 hR1)
  have HK1 := Hid.mk k1
  have HQ := Hid.mk hq1
  have HIn : Hid (∀ g, v1.ownBlock = some g → g < w1.heap.size) := Hid.mk fun g hg => hin1 g hg
  clear hR1 k1 hf1 hq1 hin1
  go_wp2_with fail
  refine HC.out.mono ?_
  rintro e w2 ⟨rfl, v2, hR2, k2, hi2⟩
  have HK2 : Hid (Kept [] w w2) := Hid.mk (HK1.out.trans k2 (fun x hx => by simp at hx; subst hx; exact .inr HQ.out))
  have HR2 : Hid (IsR 212 w2 q v2 (R0 l).2.1 (R0 l).2.2 ∧ ∀ g, v2.ownBlock = some g → g < w2.heap.size) := Hid.mk ⟨hR2, fun g hg => by have := HIn.out g (hi2 g hg); have := k2.size; omega⟩
  have hlr : Hid ((R0 l).2.1.length ≤ 3000000) := Hid.mk (by
    have : (rnum l false).2.1.length ≤ l.length := rnum_rest_I l false
    show (rnum l false).2.1.length ≤ _
    omega)
  clear hR2 k2 hi2 HC HK1 HIn
  obtain ⟨n, hn⟩ : ∃ n, Hid ((R0 l).1 = n) := ⟨_, Hid.mk rfl⟩
  have hn' : (rnum l false).1 = n := hn.out
  rw [hn']
  clear hn'
  have hun : n < 18446744073709551616 := by have := rnum_lt l false; have e : (rnum l false).1 = n := hn.out; omega
  by_cases h3 : 3 ≤ n
  · have g3 : (3 : Int) ≤ (n : Int) := by omega
    have hno := Hid.mk (HN.out _ (decAc_no (by rw [hn.out]; exact mkAc_n (by omega))) HK2.out)
    clear HN HY
    go_wp2_with fail
    exact hno.out
  · have g3 : ((3 : Int) ≤ (n : Int)) = False := eq_false (by omega)
    obtain ⟨w3, e3, k3, z3, b3⟩ := box1 w2 (.cells #[.pointer none, .pointer none, .pointer none, .int .i64 (n : Int), .slice none 0 0] 66)
    have HE3 := Hid.mk e3
    have HC := Hid.mk (read18 (w0 := w) (w := w3) (p := w2.heap.size) (q := q) (t := (n : Int)) b3 ⟨v2, HR2.out.1.kept k3 (by simp) (by simp), fun e => by have := HR2.out.2 _ e; omega, fun g hg => by have := HR2.out.2 g hg; omega⟩ HK2.out.size (by have := HQ.out; exact HQ.out) (HK2.out.trans k3 (by simp)) hlr.out)
    clear e3 k3 z3 b3 HR2
    go_wp2_with fail
    rw [HE3.out]
    refine HC.out.mono ?_
    rintro e w4 ⟨g, X0, X1, X2, X4, e0, e1, e2, e3, l', bad', rfl, hRP, hl'⟩
    have hl' : (l', bad') = (R4 l).2 := hl'
    have hl1 : (R4 l).2.1 = l' := by rw [← hl']
    have hl2 : (R4 l).2.2 = bad' := by rw [← hl']
    have HK4 := Hid.mk hRP.k
    by_cases hz : e0 = 0 ∧ e1 = 0 ∧ e2 = 0 ∧ e3 = 0
    · obtain ⟨a, d1, d2, d3, d4, d5, d6, d7⟩ := allP_yesB hRP.a hRP.box hRP.hp hz.1 hz.2.1 hz.2.2.1 hz.2.2.2
      obtain ⟨vq, hvq, -⟩ := hRP.rd
      have HEnd := Hid.mk (end_any q vq l' bad' w4 hvq)
      have HB : Hid ((decide (e0 = 0) && decide (e1 = 0) && decide (e2 = 0) && decide (e3 = 0)) = true) := Hid.mk (by rw [hz.1, hz.2.1, hz.2.2.1, hz.2.2.2]; rfl)
      have HM : Hid (mkAc n (decJn (R1 l).1) (decP (R2 l).1) (decO (R3 l).1) (decP (R4 l).1) = if a.inb.length ≤ 8 ∧ n ≤ 2 ∧ soundA n a.inb.length a.poi = true then some ⟨a.j, a.inb, a.out, n, a.poi⟩ else none) := Hid.mk (by rw [d1, d2, d3, d4, mkAc_some])
      have HP := Hid.mk (dec_poi d4)
      obtain ⟨pj, pi, po, d7⟩ := d7
      have HAct := Hid.mk d7
      have H56 := Hid.mk (And.intro d5 d6)
      rw [HB.out]
      clear hRP hvq d1 d2 d3 d4 d5 d6 d7 hl' HB HC HE3 hz
      cases hend : (!bad' && l'.isEmpty) with
      | false =>
        have hno := Hid.mk (HN.out w4 (decAc_bad (by rw [hl1, hl2]; exact hend)) HK4.out)
        rw [hend] at HEnd
        clear HN HY hl1 hl2 hend
        go_wp2_with fail
        refine HEnd.out.mono ?_
        rintro e w5 ⟨rfl, rfl⟩
        go_wp2_with fail
        exact hno.out
      | true =>
        have HD := Hid.mk (decAc_at (l := l) (by rw [hl1, hl2]; exact hend))
        rw [hend] at HEnd
        have HK20 := Hid.mk (keeps20 HAct.out.act)
        clear hl1 hl2 hend
        go_wp2_with fail
        refine HEnd.out.mono ?_
        rintro e w5 ⟨rfl, rfl⟩
        go_wp2_with fail
        refine HK20.out.mono ?_
        rintro e w6 ⟨rfl, k6⟩
        have hsk := sound_keeps a
        rw [HP.out, Bool.and_true, H56.out.1] at hsk
        have HK6 := Hid.mk (HK4.out.trans k6 (by simp))
        have HA6 := Hid.mk (HAct.out.kept0 k6)
        clear k6 HK20 HEnd
        cases hk : keepsA a with
        | false =>
          have hno := Hid.mk (HN.out w6 (by rw [HD.out, hn.out, HM.out, if_neg (fun h => by rw [hsk, hk] at h; exact absurd h.2.2 (by simp))]) HK6.out)
          clear HN HY hsk hk
          go_wp2_with fail
          exact hno.out
        | true =>
          have hyes := Hid.mk (HY.out w6 w2.heap.size a (by
            rw [HD.out, hn.out, HM.out, if_pos ⟨H56.out.2, by omega, by rw [hsk, hk]⟩]
            obtain ⟨x1, x2, x3, x4, x5⟩ := a
            have h5 : x4 = (n : Int) := H56.out.1
            rw [h5]) ⟨_, _, _, HA6.out⟩ HK6.out)
          clear HN HY hsk hk
          go_wp2_with fail
          exact hyes.out
    · have HB : Hid ((decide (e0 = 0) && decide (e1 = 0) && decide (e2 = 0) && decide (e3 = 0)) = false) := Hid.mk (by
        rw [Bool.eq_false_iff]
        intro h
        simp only [Bool.and_eq_true, decide_eq_true_eq] at h
        exact hz ⟨h.1.1.1, h.1.1.2, h.1.2, h.2⟩)
      have hno := Hid.mk (HN.out w4 (decAc_no (allP_no hRP.a hz)) HK4.out)
      rw [HB.out]
      clear HN HY hRP hl' hl1 hl2 HB hz HC HE3
      go_wp2_with fail
      exact hno.out
end
end Go.Proofs.YtngnenbidpojeaaGreatDoor
/-
  One start that fits: the package's variables as their initialisers lay them.
-/
namespace Go.Proofs.YtngnenbidpojeaaGreatDoor
open Go.RowKit
set_option maxRecDepth 100000
def cellsD1 : DataW Unit → List Value
  | .lit (.int k n) => [.int k n]
  | .lit (.string s) => [.string ⟨s.toArray⟩]
  | _ => []
def cellsD2 : DataW Unit → List Value
  | .agg ps => ps.flatMap cellsD1
  | _ => []
def cellsD3 : DataW Unit → List Value
  | .agg ps => ps.flatMap cellsD2
  | _ => []
def reCells (cs : List Value) : Obj → Obj
  | .cells _ t frozen => .cells cs.toArray t frozen
  | o => o
/-- The settled world; the variable holds what its initialiser lays. -/
noncomputable def laidWorld (os : Os) : World :=
  let w0 := World.holding Tryz.prog os ⟨#[], #[], []⟩
  { w0 with heap := w0.heap.modify 0 (reCells (cellsD3 Rows.laid_reeve_code_operations)) }
theorem own : ownKnob Tryz.prog.godebug = none := by kernel_rfl
theorem laidOut : laidOutB Tryz.prog = true := by kernel_rfl
theorem laid_met (os : Os) (args : Array Value) : laidMet Tryz.prog [("reeve/code.operations", Rows.laid_reeve_code_operations)] ((laidWorld os).forCall (fun _ _ => 0) ⟨#[], args, []⟩).memory :=
  laidMet_of_run' 8 (by kernel_rfl) (by kernel_rfl)
theorem glob_ofH {W : World} (h : laidMetH Tryz.prog [("reeve/code.operations", Rows.laid_reeve_code_operations)] W) : Glob W := by
  have h0 : laidMet Tryz.prog [("reeve/code.operations", Rows.laid_reeve_code_operations)] W := by
    have e : ([("reeve/code.operations", Rows.laid_reeve_code_operations)].filter fun x : String × DataW Unit => x.2.handleName?.isSome) = [] := by kernel_rfl
    unfold laidMetH at h
    rw [e] at h
    exact h
  exact glob_of h0
end Go.Proofs.YtngnenbidpojeaaGreatDoor
/-
  What the bound of the second form gives of bytes.
-/
namespace Go.Proofs.YtngnenbidpojeaaGreatDoor
set_option maxRecDepth 100000
open Go.ChangeShapes
theorem bulk_lits {H : Type} (k : IntKind) (zs : List Int) : Rows.uptoBulkAll (lits (H := H) k zs) = zs.length := by
  unfold lits
  induction zs with
  | nil => simp [Rows.uptoBulkAll]
  | cons z r ih =>
    simp only [List.map_cons, Rows.uptoBulkAll, Rows.uptoBulk, ih, List.length_cons]
    omega
/-- What the bound gives. -/
theorem small_of {H : Type} {l : List (DataW H)} (hk : Rows.uptoSmall H l = true) : Rows.uptoBulkAll l ≤ 1048576 := of_decide_eq_true hk
end Go.Proofs.YtngnenbidpojeaaGreatDoor
