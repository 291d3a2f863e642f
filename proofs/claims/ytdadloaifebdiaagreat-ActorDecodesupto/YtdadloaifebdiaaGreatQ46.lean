import Derived.Test.YtdadloaifebdiaaGreatQ38
import Derived.Test.YtdadloaifebdiaaGreatQ41
import Derived.Test.YtdadloaifebdiaaGreatQ44
import Derived.Test.YtdadloaifebdiaaGreatQ45
/-
  Decode of the document's actor.
-/
namespace Go.Proofs.YtdadloaifebdiaaGreat
set_option maxRecDepth 100000
open Go.RowKit
set_option linter.unusedVariables false
def QJ (w0 w : World) (X : Value) (e : Int) (o : Option Jn) : Prop := (o = none ∧ X = .pointer none ∧ e = 2) ∨ ∃ pj j u, o = some j ∧ X = Ptr pj ∧ e = 0 ∧ IsF_J w pj u j
def QI (w0 w : World) (X : Value) (e : Int) (o : Option (List Lt)) : Prop := (o = none ∧ X = .pointer none ∧ e = 2) ∨ ∃ pi u qs, o = some (qs.map (·.x)) ∧ X = Ptr pi ∧ e = 0 ∧ IsF_I w0 w pi u qs
def QO (w0 w : World) (X : Value) (e : Int) (o : Option Ob) : Prop := (o = none ∧ X = .pointer none ∧ e = 2) ∨ ∃ po u x b ys, o = some b ∧ X = Ptr po ∧ e = 0 ∧ IsF w0 w po u x b.own b.K ys ∧ ys.map ot = b.L
section
variable {w0 w w' : World} {X : Value} {e : Int} {ts : List Nat}
theorem QJ.turn {o : Option Jn} (h : QJ w0 w X e o) (T : TT ts w0 w w') (ht : ∀ x ∈ ts, x ∈ [122, 53, 125, 132]) : QJ w0 w' X e o := by
  rcases h with h | ⟨pj, j, u, h1, h2, h3, h4⟩
  · exact .inl h
  · exact .inr ⟨pj, j, u, h1, h2, h3, T.isFJ h4 (fun hm => by have := ht _ hm; revert this; decide) (fun hm => by have := ht _ hm; revert this; decide)⟩
theorem QI.turn {o : Option (List Lt)} (h : QI w0 w X e o) (T : TT ts w0 w w') (ht : ∀ x ∈ ts, x ∈ [122, 53, 125, 132]) : QI w0 w' X e o := by
  rcases h with h | ⟨pi, u, qs, h1, h2, h3, h4⟩
  · exact .inl h
  · exact .inr ⟨pi, u, qs, h1, h2, h3, T.isFI h4 (fun hm => by have := ht _ hm; revert this; decide) (fun hm => by have := ht _ hm; revert this; decide) (fun hm => by have := ht _ hm; revert this; decide)⟩
theorem QO.turn {o : Option Ob} (h : QO w0 w X e o) (T : TT ts w0 w w') (ht : ∀ x ∈ ts, x ∈ [122, 53, 125, 132]) : QO w0 w' X e o := by
  rcases h with h | ⟨po, u, x, b, ys, h1, h2, h3, h4, h5⟩
  · exact .inl h
  · exact .inr ⟨po, u, x, b, ys, h1, h2, h3, T.isFO h4 (fun hm => by have := ht _ hm; revert this; decide) (fun hm => by have := ht _ hm; revert this; decide) (fun hm => by have := ht _ hm; revert this; decide) (fun hm => by have := ht _ hm; revert this; decide), h5⟩
theorem QJ.form {o : Option Jn} (h : QJ w0 w X e o) : ∃ x, X = .pointer x := by rcases h with ⟨-, h, -⟩ | ⟨pj, j, u, -, h, -⟩ <;> exact ⟨_, h⟩
theorem QI.form {o : Option (List Lt)} (h : QI w0 w X e o) : ∃ x, X = .pointer x := by rcases h with ⟨-, h, -⟩ | ⟨pj, j, u, -, h, -⟩ <;> exact ⟨_, h⟩
theorem QO.form {o : Option Ob} (h : QO w0 w X e o) : ∃ x, X = .pointer x := by rcases h with ⟨-, h, -⟩ | ⟨po, u, x, b, ys, -, h, -⟩ <;> exact ⟨_, h⟩
theorem IsF_I.elder {w1 : World} {p : Nat} {v : Value} {qs : List Lq} (h : IsF_I w1 w p v qs) (hs : w0.heap.size ≤ w1.heap.size) : IsF_I w0 w p v qs := ⟨h.box, h.own.elder hs, by have := h.fr; omega⟩
theorem IsF.elder {w1 : World} {p : Nat} {v u : Value} {own : List UInt8} {K : List La} {ms : List Yq} (h : IsF w1 w p v u own K ms) (hs : w0.heap.size ≤ w1.heap.size) : IsF w0 w p v u own K ms :=
  ⟨h.box, ⟨h.ys.own, h.ys.args, fun g hg => by have := h.ys.fr g hg; omega, fun y hy g hg => by have := h.ys.fra y hy g hg; omega⟩, h.ks, fun g hg => by have := h.fru g hg; omega, by have := h.fr; omega⟩
end
section
variable {w0 w : World} {v : Value} {l : List UInt8}
theorem rpart_J (hr : Reads w v l) (hin : Inside w v) (hl : l.length ≤ 3000000) (hs : w0.heap.size ≤ w.heap.size) : Calls Tryz.prog 23 #[v] w fun e w' => ∃ X n, e = .returned (.tuple #[X, .int .i64 n]) ∧ QJ w0 w' X n (decJn l) ∧ Kept [] w w' := by
  refine (rdecode24 v l hr hin (by omega)).mono ?_
  rintro e w' (⟨h, rfl, k⟩ | ⟨p, j, h, rfl, ⟨u, hJ, -⟩, k, hp⟩)
  · exact ⟨_, _, rfl, .inl ⟨h, rfl, rfl⟩, k⟩
  · exact ⟨_, _, rfl, .inr ⟨p, j, u, h, rfl, rfl, hJ⟩, k⟩
theorem rpart_I (hr : Reads w v l) (hin : Inside w v) (hl : l.length ≤ 3000000) (hs : w0.heap.size ≤ w.heap.size) : Calls Tryz.prog 25 #[v] w fun e w' => ∃ X n, e = .returned (.tuple #[X, .int .i64 n]) ∧ QI w0 w' X n (decB l) ∧ Kept [] w w' := by
  refine (rbox20 v l hr hin hl).mono ?_
  rintro e w' (⟨h, rfl, k⟩ | ⟨p, u, qs, h, rfl, hB, k⟩)
  · exact ⟨_, _, rfl, .inl ⟨h, rfl, rfl⟩, k⟩
  · exact ⟨_, _, rfl, .inr ⟨p, u, qs, h, rfl, rfl, hB.elder hs⟩, k⟩
theorem rpart_O (hr : Reads w v l) (hin : Inside w v) (hl : l.length ≤ 3000000) (hs : w0.heap.size ≤ w.heap.size) : Calls Tryz.prog 26 #[v] w fun e w' => ∃ X n, e = .returned (.tuple #[X, .int .i64 n]) ∧ QO w0 w' X n (decO l) ∧ Kept [] w w' := by
  refine (decode17 v l hr hin (by omega)).mono ?_
  rintro e w' (⟨h, rfl, k⟩ | ⟨p, u, x, b, ys, h, rfl, hO, hm, k⟩)
  · exact ⟨_, _, rfl, .inl ⟨h, rfl, rfl⟩, k⟩
  · exact ⟨_, _, rfl, .inr ⟨p, u, x, b, ys, h, rfl, rfl, hO.elder hs, hm⟩, k⟩
theorem rpart_P (hr : Reads w v l) (hin : Inside w v) (hl : l.length ≤ 3000000) (hs : w0.heap.size ≤ w.heap.size) : Calls Tryz.prog 27 #[v] w fun e w' => ∃ X n, e = .returned (.tuple #[X, .int .i64 n]) ∧ PP w0 w' X n (decP l) ∧ Kept [] w w' := by
  refine (unpack23 v l hr hin hl).mono ?_
  rintro e w' ⟨X, qs, rfl, hm, hO, k⟩
  exact ⟨_, _, rfl, ⟨rfl, w, qs, hO, hm⟩, k⟩
end
/-- The document's Reader; A: what was read so far. -/
structure RF (A : World → Prop) (w0 w : World) (q : Nat) (l : List UInt8) (bad : Bool) : Prop where
  rd : ∃ v, IsR 132 w q v l bad
  hq : w0.heap.size ≤ q
  k : Kept [] w0 w
  a : A w
section
variable {A : World → Prop} {w0 w w' : World} {q : Nat} {l : List UInt8} {bad : Bool}
theorem RF.kept0 (hA : Stays w0 A) (h : RF A w0 w q l bad) (k : Kept [] w w') : RF A w0 w' q l bad := by
  obtain ⟨v, h1⟩ := h.rd
  exact ⟨⟨v, h1.kept k (by simp) (by simp)⟩, h.hq, h.k.trans k (by simp), hA _ _ [] (TT.of0 k) (by simp) h.a⟩
theorem rf_text (hA : Stays w0 A) (h : RF A w0 w q l bad) : Calls Tryz.prog 24 #[Ptr q] w fun e w' => e = .returned (Sv (rtext l bad).1) ∧ RF A w0 w' q (rtext l bad).2.1 (rtext l bad).2.2 := by
  obtain ⟨v, h1⟩ := h.rd
  refine (refr_text q v l bad w h1).mono ?_
  rintro e w' ⟨rfl, v', i1, i2, i3⟩
  have T : TT [132] w0 w w' := ⟨[q], i2, fun g' hg' => by simp at hg'; subst hg'; exact ⟨h.hq, _, _, h1.box, by simp⟩⟩
  exact ⟨rfl, ⟨⟨v', i1⟩, h.hq, T.kept0 h.k, hA _ _ _ T (by simp) h.a⟩⟩
theorem RF.more {B : World → Prop} (h : RF A w0 w q l bad) (hb : B w) : RF (fun W => A W ∧ B W) w0 w q l bad := ⟨h.rd, h.hq, h.k, h.a, hb⟩
end
/-- What Decode of the document's answers. -/
def DecG (w : World) (l : List UInt8) (e : Ending) (w' : World) : Prop :=
  (decAc l = none ∧ e = .returned (.tuple #[.pointer none, .int .i64 2]) ∧ Kept [] w w') ∨
  ∃ p a, decAc l = some a ∧ e = .returned (.tuple #[Ptr p, .int .i64 0]) ∧ IsAf w' p a ∧ Kept [] w w'
section
variable {w : World}
set_option maxHeartbeats 8000000 in
theorem rdecode7 (v : Value) (l : List UInt8) (hr : Reads w v l) (hin : Inside w v) (hl : l.length ≤ 3000000) : Calls Tryz.prog 7 #[v] w fun e w' => DecG w l e w' := by
  have HN : Hid (∀ W, decAc l = none → Kept [] w W → DecG w l (.returned (.tuple #[.pointer none, .int .i64 2])) W) := Hid.mk fun W h k => .inl ⟨h, rfl, k⟩
  have HY : Hid (∀ W p a, decAc l = some a → IsAf W p a → Kept [] w W → DecG w l (.returned (.tuple #[Ptr p, .int .i64 0])) W) := Hid.mk fun W p a h1 h2 h3 => .inr ⟨p, a, h1, rfl, h2, h3⟩
  generalize DecG w l = R at HN HY
  have H21 := Hid.mk (of_any v l w hr hin)
  clear hr hin
  go_enter Tryz.func7, Tryz.ntmps7
  go_wp2_with fail
  refine H21.out.mono ?_
  rintro e w1 ⟨q, rfl, hR1, k1, hq1⟩
  have HC := Hid.mk (refr_any q v l false w1 hR1)
  have HK1 := Hid.mk k1
  have HQ := Hid.mk hq1
  clear hR1 k1 hq1 H21
  go_wp2_with fail
  refine HC.out.mono ?_
  rintro e w2 ⟨rfl, v2, hR2, k2, hi2⟩
  have HRF : Hid (RF (fun _ => True) w w2 q (R0 l).2.1 (R0 l).2.2) := Hid.mk ⟨⟨v2, hR2⟩, HQ.out, HK1.out.trans k2 (fun x hx => by simp at hx; subst hx; exact .inr HQ.out), trivial⟩
  have HSt : Hid (Stays w (fun _ => True)) := Hid.mk fun w w' ts T ht h => trivial
  obtain ⟨n, hn⟩ : ∃ n, Hid ((R0 l).1 = n) := ⟨_, Hid.mk rfl⟩
  have hn' : (rnum l false).1 = n := hn.out
  rw [hn']
  clear hn'
  have hun : n < 18446744073709551616 := by have := rnum_lt l false; have e : (rnum l false).1 = n := hn.out; omega
  have hlen : Hid ((R1 l).1.length ≤ 3000000 ∧ (R2 l).1.length ≤ 3000000 ∧ (R3 l).1.length ≤ 3000000 ∧ (R4 l).1.length ≤ 3000000) := Hid.mk (by
    have a0 : (R0 l).2.1.length ≤ l.length := rnum_rest_I l false
    have a1 : (R1 l).1.length ≤ (R0 l).2.1.length ∧ (R1 l).2.1.length ≤ (R0 l).2.1.length := rtext_le _ _
    have a2 : (R2 l).1.length ≤ (R1 l).2.1.length ∧ (R2 l).2.1.length ≤ (R1 l).2.1.length := rtext_le _ _
    have a3 : (R3 l).1.length ≤ (R2 l).2.1.length ∧ (R3 l).2.1.length ≤ (R2 l).2.1.length := rtext_le _ _
    have a4 : (R4 l).1.length ≤ (R3 l).2.1.length ∧ (R4 l).2.1.length ≤ (R3 l).2.1.length := rtext_le _ _
    omega)
  clear hR2 k2 hi2 HC HK1
  have HC1 : Hid (Calls Tryz.prog 24 #[Ptr q] _ fun e w' => e = .returned (Sv (R1 l).1) ∧ RF _ w w' q (R1 l).2.1 (R1 l).2.2) := Hid.mk (rf_text HSt.out HRF.out)
  clear HRF
  go_wp2_with fail
  refine HC1.out.mono ?_
  rintro e wa ⟨rfl, ra⟩
  obtain ⟨cp, wb, hrun, hRd, kb, hin⟩ := bytes_of wa (R1 l).1 (by have := hlen.out.1; unfold maxLen; omega)
  have rb := ra.kept0 HSt.out kb
  have HD := Hid.mk (rpart_J (w0 := w) hRd (fun g hg => by simp [Value.ownBlock] at hg; omega) hlen.out.1 rb.k.size)
  have HRB := Hid.mk rb
  clear ra rb hRd kb HC1 hin
  go_wp2_with fail
  refine HD.out.mono ?_
  rintro e wc1 ⟨X1, n1, rfl, hP, kc⟩
  obtain ⟨xo1, rfl⟩ := hP.form
  have HRF := Hid.mk ((HRB.out.kept0 HSt.out kc).more (B := fun W => QJ w W (.pointer xo1) n1 (decJn (R1 l).1)) hP)
  have HSt := Hid.mk (HSt.out.and (B := fun W => QJ w W (.pointer xo1) n1 (decJn (R1 l).1)) (fun w w' ts T ht h => QJ.turn h T ht))
  clear HRB HD hP kc hrun
  have HC2 : Hid (Calls Tryz.prog 24 #[Ptr q] _ fun e w' => e = .returned (Sv (R2 l).1) ∧ RF _ w w' q (R2 l).2.1 (R2 l).2.2) := Hid.mk (rf_text HSt.out HRF.out)
  clear HRF
  go_wp2_with fail
  refine HC2.out.mono ?_
  rintro e wa ⟨rfl, ra⟩
  obtain ⟨cp, wb, hrun, hRd, kb, hin⟩ := bytes_of wa (R2 l).1 (by have := hlen.out.2.1; unfold maxLen; omega)
  have rb := ra.kept0 HSt.out kb
  have HD := Hid.mk (rpart_I (w0 := w) hRd (fun g hg => by simp [Value.ownBlock] at hg; omega) hlen.out.2.1 rb.k.size)
  have HRB := Hid.mk rb
  clear ra rb hRd kb HC2 hin
  go_wp2_with fail
  refine HD.out.mono ?_
  rintro e wc2 ⟨X2, n2, rfl, hP, kc⟩
  obtain ⟨xo2, rfl⟩ := hP.form
  have HRF := Hid.mk ((HRB.out.kept0 HSt.out kc).more (B := fun W => QI w W (.pointer xo2) n2 (decB (R2 l).1)) hP)
  have HSt := Hid.mk (HSt.out.and (B := fun W => QI w W (.pointer xo2) n2 (decB (R2 l).1)) (fun w w' ts T ht h => QI.turn h T ht))
  clear HRB HD hP kc hrun
  have HC3 : Hid (Calls Tryz.prog 24 #[Ptr q] _ fun e w' => e = .returned (Sv (R3 l).1) ∧ RF _ w w' q (R3 l).2.1 (R3 l).2.2) := Hid.mk (rf_text HSt.out HRF.out)
  clear HRF
  go_wp2_with fail
  refine HC3.out.mono ?_
  rintro e wa ⟨rfl, ra⟩
  obtain ⟨cp, wb, hrun, hRd, kb, hin⟩ := bytes_of wa (R3 l).1 (by have := hlen.out.2.2.1; unfold maxLen; omega)
  have rb := ra.kept0 HSt.out kb
  have HD := Hid.mk (rpart_O (w0 := w) hRd (fun g hg => by simp [Value.ownBlock] at hg; omega) hlen.out.2.2.1 rb.k.size)
  have HRB := Hid.mk rb
  clear ra rb hRd kb HC3 hin
  go_wp2_with fail
  refine HD.out.mono ?_
  rintro e wc3 ⟨X3, n3, rfl, hP, kc⟩
  obtain ⟨xo3, rfl⟩ := hP.form
  have HRF := Hid.mk ((HRB.out.kept0 HSt.out kc).more (B := fun W => QO w W (.pointer xo3) n3 (decO (R3 l).1)) hP)
  have HSt := Hid.mk (HSt.out.and (B := fun W => QO w W (.pointer xo3) n3 (decO (R3 l).1)) (fun w w' ts T ht h => QO.turn h T ht))
  clear HRB HD hP kc hrun
  have HC4 : Hid (Calls Tryz.prog 24 #[Ptr q] _ fun e w' => e = .returned (Sv (R4 l).1) ∧ RF _ w w' q (R4 l).2.1 (R4 l).2.2) := Hid.mk (rf_text HSt.out HRF.out)
  clear HRF
  go_wp2_with fail
  refine HC4.out.mono ?_
  rintro e wa ⟨rfl, ra⟩
  obtain ⟨cp, wb, hrun, hRd, kb, hin⟩ := bytes_of wa (R4 l).1 (by have := hlen.out.2.2.2; unfold maxLen; omega)
  have rb := ra.kept0 HSt.out kb
  have HD := Hid.mk (rpart_P (w0 := w) hRd (fun g hg => by simp [Value.ownBlock] at hg; omega) hlen.out.2.2.2 rb.k.size)
  have HRB := Hid.mk rb
  clear ra rb hRd kb HC4 hin
  go_wp2_with fail
  refine HD.out.mono ?_
  rintro e wc4 ⟨X4, n4, rfl, hP, kc⟩
  obtain ⟨xa, xn, xc, rfl⟩ := hP.form
  have HRF := Hid.mk ((HRB.out.kept0 HSt.out kc).more (B := fun W => PP w W (.slice xa xn xc) n4 (decP (R4 l).1)) hP)
  have HSt := Hid.mk (HSt.out.and (B := fun W => PP w W (.slice xa xn xc) n4 (decP (R4 l).1)) (fun w w' ts T ht h => PP.turn h T ht))
  clear HRB HD hP kc hrun
  go_wp2_with fail
  obtain ⟨vq, hvq⟩ := HRF.out.rd
  have HEnd := Hid.mk (refr_end q vq _ _ wc4 hvq)
  have HK4 := Hid.mk HRF.out.k
  have HA4 := Hid.mk HRF.out.a
  clear hvq HRF HSt hlen
  cases hend : (!(R4 l).2.2 && (R4 l).2.1.isEmpty) with
  | false =>
    rw [hend] at HEnd
    have hno := Hid.mk (HN.out wc4 (decAc_bad hend) HK4.out)
    clear HN HY hend
    refine HEnd.out.mono ?_
    rintro e w5 ⟨rfl, rfl⟩
    go_wp2_with fail
    exact hno.out
  | true =>
    rw [hend] at HEnd
    have HD := Hid.mk (decAc_at hend)
    rw [hn.out] at HD
    clear hend
    by_cases h2 : 2 < n
    · have g2 : (2 : Int) < (n : Int) := by omega
      have hno := Hid.mk (HN.out wc4 (by rw [HD.out]; exact mkAc_n h2) HK4.out)
      clear HN HY HD
      refine HEnd.out.mono ?_
      rintro e w5 ⟨rfl, rfl⟩
      go_wp2_with fail
      exact hno.out
    · have g2 : ((2 : Int) < (n : Int)) = False := eq_false (by omega)
      obtain ⟨⟨⟨⟨-, a1⟩, a2⟩, a3⟩, a4⟩ := HA4.out
      clear HA4
      rcases a1 with ⟨b1, b2, rfl⟩ | ⟨pj, j, uj, b1, b2, rfl, hJ⟩
      · have hno := Hid.mk (HN.out wc4 (by rw [HD.out, b1]; exact mkAc_j) HK4.out)
        clear HN HY HD b1 b2 a2 a3 a4
        refine HEnd.out.mono ?_
        rintro e w5 ⟨rfl, rfl⟩
        go_wp2_with fail
        exact hno.out
      have B1 := Hid.mk b1
      injection b2 with b2
      subst b2
      rcases a2 with ⟨b1, b2, rfl⟩ | ⟨pi, ui, qs, b1, b2, rfl, hI⟩
      · have hno := Hid.mk (HN.out wc4 (by rw [HD.out]; exact mkAc_b b1) HK4.out)
        clear HN HY HD b1 b2 a3 a4 hJ B1
        refine HEnd.out.mono ?_
        rintro e w5 ⟨rfl, rfl⟩
        go_wp2_with fail
        exact hno.out
      have B2 := Hid.mk (decB_iff.1 b1)
      injection b2 with b2
      subst b2
      rcases a3 with ⟨b1, b2, rfl⟩ | ⟨po, uo, xo, b, ys, b1, b2, rfl, hO, hm⟩
      · have hno := Hid.mk (HN.out wc4 (by rw [HD.out, b1]; exact mkAc_o) HK4.out)
        clear HN HY HD b1 b2 a4 hJ hI B1 B2
        refine HEnd.out.mono ?_
        rintro e w5 ⟨rfl, rfl⟩
        go_wp2_with fail
        exact hno.out
      have B3 := Hid.mk b1
      injection b2 with b2
      subst b2
      obtain ⟨c1, w9, ms, hL, hms⟩ := a4
      cases hp : decP (R4 l).1 with
      | none =>
        rw [hp] at c1 hms
        replace c1 : n4 = 2 := c1
        subst c1
        have hno := Hid.mk (HN.out wc4 (by rw [HD.out, hp]; exact mkAc_p) HK4.out)
        clear HN HY HD hJ hI hO hm B1 B2 B3 hL hms hp
        refine HEnd.out.mono ?_
        rintro e w5 ⟨rfl, rfl⟩
        go_wp2_with fail
        exact hno.out
      | some ps =>
        rw [hp] at c1 hms
        replace c1 : n4 = 0 := c1
        replace hms : ms.map (·.x) = ps := hms
        subst c1
        obtain ⟨av, cv, ev, -, -⟩ := hL.row.form
        injection ev with ev1 ev2 ev3
        subst ev1 ev2 ev3
        have hml : ms.length = ps.length := by rw [← hms, List.length_map]
        obtain ⟨ai, ci, hui, -, -⟩ := hI.own.row.form
        subst hui
        have d0 := cell_of_one hI.box
        have HP := Hid.mk (dec_poi hp)
        have HS29 := Hid.mk (sound29 (n : Int) qs.length hL.row)
        rw [hms] at HS29
        have HM : Hid (decAc l = if qs.length ≤ 8 ∧ n ≤ 2 ∧ soundA n qs.length ps = true then some ⟨j, qs.map (·.x), b, n, ps⟩ else none) := Hid.mk (by rw [HD.out, B1.out, B2.out.1, B3.out, hp, mkAc_some, List.length_map])
        have HPk := Hid.mk (decP_ok hp)
        have HAll : Hid (IsF_J wc4 pj uj j ∧ IsF_I w wc4 pi (.slice ai qs.length ci) qs ∧ IsF w wc4 po uo xo b.own b.K ys ∧ ys.map ot = b.L ∧ RowQ wc4 (.slice xa ms.length xc) ms ∧ ValsQ wc4 ms ∧ ms.map (·.x) = ps ∧ ms.length = ps.length ∧ qs.length ≤ 8) := Hid.mk ⟨hJ, hI, hO, hm, hL.row, hL.vals, hms, hml, by have := B2.out.2; rwa [List.length_map] at this⟩
        clear hJ hI hO hm hL hms hp hml HD
        refine HEnd.out.mono ?_
        rintro e w5 ⟨rfl, rfl⟩
        go_wp2_with fail
        refine HS29.out.mono ?_
        rintro e w6 ⟨rfl, k6⟩
        have HK6 := Hid.mk (HK4.out.trans k6 (by simp))
        have HK46 := Hid.mk k6
        clear k6 d0 HS29 HEnd
        cases hs : soundA (n : Int) qs.length ps with
        | false =>
          have hno := Hid.mk (HN.out w6 (by rw [HM.out, if_neg (fun h => by rw [hs] at h; exact absurd h.2.2 (by simp))]) HK6.out)
          clear HN HY hs
          go_wp2_with fail
          exact hno.out
        | true =>
          obtain ⟨w7, e7, k7, z7, b7⟩ := box1 w6 (.cells #[Ptr pj, Ptr pi, Ptr po, .int .i64 (n : Int), .slice xa ms.length xc] 72)
          have HE7 := Hid.mk e7
          have hyes := Hid.mk (HY.out w7 w6.heap.size ⟨j, qs.map (·.x), b, n, ps⟩ (by rw [HM.out, if_pos ⟨HAll.out.2.2.2.2.2.2.2.2, by omega, hs⟩]) (by
            obtain ⟨x1, x2, x3, x4, x5, x6, x7, x8, x9⟩ := HAll.out
            have kk := HK46.out.trans k7 (by simp)
            rw [x8] at b7 x5
            exact ⟨w, pj, pi, po, uj, _, uo, xo, xa, xc, qs, ys, ms, b7, x1.kept0 kk, x2.kept0 kk, rfl, x3.kept0 kk, x4, x5.kept kk (by simp), x6.kept0 kk, x7, (decJn_fwd B1.out).2, by rw [List.length_map]; exact x9, decP_ok B2.out.1, (decO_fwd B3.out).2, fun x hx => (HPk.out x hx).1⟩) (HK6.out.trans k7 (by simp)))
          clear HN HY hs b7 e7 k7 z7
          go_wp2_with fail
          rw [HE7.out]
          exact hyes.out
end
end Go.Proofs.YtdadloaifebdiaaGreat
