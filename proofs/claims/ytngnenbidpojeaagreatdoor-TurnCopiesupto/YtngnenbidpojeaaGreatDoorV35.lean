import Derived.Test.YtngnenbidpojeaaGreatDoorV08
import Derived.Test.YtngnenbidpojeaaGreatDoorV11
import Derived.Test.YtngnenbidpojeaaGreatDoorV19
import Derived.Test.YtngnenbidpojeaaGreatDoorV23
import Derived.Test.YtngnenbidpojeaaGreatDoorV26
import Derived.Test.YtngnenbidpojeaaGreatDoorV28
import Derived.Test.YtngnenbidpojeaaGreatDoorV29
import Derived.Test.YtngnenbidpojeaaGreatDoorV34
/-
  A run's result, in a box that was made ahead of the run or behind it.
-/
namespace Go.Proofs.YtngnenbidpojeaaGreatDoor
open Go.RowKit
set_option maxRecDepth 100000
set_option linter.unusedVariables false
/-- The result in a box of its own; rows and box are new since W0. -/
def ResX (W0 wc : World) (g : Nat) (R : Rsl) : Prop := (∃ ev sn tm, ResB wc g R ev sn tm ∧ (∀ g', ev.ownBlock = some g' → W0.heap.size ≤ g') ∧ (∀ g', sn.ownBlock = some g' → W0.heap.size ≤ g') ∧ (∀ g', tm.ownBlock = some g' → W0.heap.size ≤ g')) ∧ Kept [] W0 wc ∧ W0.heap.size ≤ g
theorem ResX.keep {W0 wc wd : World} {g : Nat} {R : Rsl} (h : ResX W0 wc g R) (k : Kept [] wc wd) : ResX W0 wd g R := by
  obtain ⟨⟨ev, sn, tm, h1, h2⟩, h3, h4⟩ := h
  exact ⟨⟨ev, sn, tm, h1.keep k, h2⟩, h3.then k, h4⟩
/-- Cells that are stored one behind the other over a whole block. -/
theorem store_cells {P : Program} {w : World} {g : Nat} {t : TypeId} {L X : List Value} (hb : w.heap[g]? = some (.cells L.toArray t (0, 0))) (hl : X.length = L.length) (h1 : ∀ v ∈ X, v.oneCell' = true) : ∃ W, (storeCells ⟨g, 0, none⟩ X).run P w = .ok () W ∧ W.heap[g]? = some (.cells X.toArray t (0, 0)) ∧ Kept [g] w W := by
  have h := run_storeCells_at P g 0 t X 0 L.toArray w hb (by simp [hl]) h1
  refine ⟨_, h, ?_, (Kept.refl [g] w).setRow (.inl (by simp)) _⟩
  have hlt := lt_of_block hb
  have h' : w.heap[g] = .cells L.toArray t (0, 0) := by simpa [Array.getElem?_eq_getElem hlt] using hb
  show (w.heap.modify g _)[g]? = _
  rw [Array.getElem?_eq_getElem (by simpa using hlt), Array.getElem_modify_self, h']
  simp [hl]
/-- A result's cells, stored into a box that was made ahead of the run. -/
theorem resX_cells {n g : Nat} {W0 w4 : World} {v : Value} {R : Rsl} (h : IsRs n w4 v R) (K : Kept [] W0 w4) (hn : W0.heap.size ≤ n) : ∃ X : List Value, v = .agg X.toArray ∧ X.length = 12 ∧ ∀ g w5, w5.heap[g]? = some (.cells z12.toArray 103 (0, 0)) → W0.heap.size ≤ g → (g < n ∨ w5 = w4.alloc (.cells z12.toArray 103) ∧ g = w4.heap.size) → (w5 = w4 ∨ w5 = w4.alloc (.cells z12.toArray 103)) → ∃ W, (storeCells ⟨g, 0, none⟩ X).run Tryz.prog w5 = .ok () W ∧ ResX W0 W g R := by
  obtain ⟨⟨ev, sn, tm, rfl, h1, h2, h3, n1, n2, n3⟩, h8⟩ := h
  obtain ⟨a1, c1, f1, -⟩ := h1.form
  obtain ⟨a2, c2, f2, -⟩ := h2.form
  obtain ⟨a3, c3, f3, -⟩ := h3.form
  have hl : (cellsR R.reg ev sn tm R.k).length = 12 := by rw [cellsR_length, h8]
  refine ⟨_, rfl, hl, fun g w5 hb hg hor hw => ?_⟩
  have k5 : Kept [] w4 w5 := by
    rcases hw with rfl | rfl
    · exact Kept.refl [] _
    · exact (Kept.refl [] w4).alloc _
  obtain ⟨W, s1, s2, s3⟩ := store_cells (P := Tryz.prog) (X := cellsR R.reg ev sn tm R.k) hb (by rw [hl]; rfl) (cellsR_one (by rw [f1]; rfl) (by rw [f2]; rfl) (by rw [f3]; rfl))
  have keepR : ∀ {k : Nat} {x : Value} {rs : List (List Value)}, ReadsR k w4 x rs → (∀ g', x.ownBlock = some g' → n ≤ g') → Wide k rs → 0 < k → ReadsR k W x rs := fun {k x rs} hr hx hwd hk0 => by
    rcases hor with hor | ⟨-, rfl⟩
    · exact (hr.keep k5).kept s3 (fun g' h' h2 => by have := hx g' h'; simp at h2; omega)
    · by_cases hne : rs = []
      · subst hne
        obtain ⟨a, cap, e, q1, q2, q3, q4⟩ := hr
        exact ⟨a, cap, e, q1, q2, q3, fun h => absurd rfl h⟩
      · obtain ⟨g', e1, e2⟩ := hr.lt hwd hk0 hne
        exact (hr.keep k5).kept s3 (fun g'' h' h2 => by rw [e1] at h'; injection h' with h'; subst h'; simp at h2; omega)
  exact ⟨W, s1, ⟨ev, sn, tm, ⟨s2, keepR h1 n1 (wideE _) (by omega), keepR h2 n2 (wideS _) (by omega), keepR h3 n3 (wideT _) (by omega), h8⟩, fun g hg => Nat.le_trans hn (n1 g hg), fun g hg => Nat.le_trans hn (n2 g hg), fun g hg => Nat.le_trans hn (n3 g hg)⟩, (K.then k5).trans s3 (fun x hx => .inr (by simp at hx; omega)), hg⟩
end Go.Proofs.YtngnenbidpojeaaGreatDoor
/-
  InterpTimers' walk.
-/
namespace Go.Proofs.YtngnenbidpojeaaGreatDoor
open Go.RowKit
set_option maxRecDepth 100000
set_option linter.unusedVariables false
/-- The cells of a reminder. -/
theorem rowT_at_N {w : World} {v : Value} {C : List Tm} (h : ReadsR 5 w v (rowT C)) {j : Nat} {x : Tm} (hj : C[j]? = some x) : ∃ b o c, v = .slice (some ⟨b, o, none⟩) C.length c ∧ w.cell? ⟨b, o + j * 5, none⟩ = some (.string ⟨x.nm.toArray⟩) ∧ w.cell? ⟨b, o + j * 5 + 1, none⟩ = some (.bool x.can) ∧ w.cell? ⟨b, o + j * 5 + 2, none⟩ = some (.int .i64 x.due) ∧ w.cell? ⟨b, o + j * 5 + 3, none⟩ = some (.int .i64 x.per) ∧ w.cell? ⟨b, o + j * 5 + 4, none⟩ = some (.int .i64 x.kind) := by
  obtain ⟨b, o, c, e, hc⟩ := h.at j [.string ⟨x.nm.toArray⟩, .bool x.can, .int .i64 x.due, .int .i64 x.per, .int .i64 x.kind] (by simp [rowT, hj])
  rw [rowT_length] at e
  exact ⟨b, o, c, e, hc 0 _ rfl, hc 1 _ rfl, hc 2 _ rfl, hc 3 _ rfl, hc 4 _ rfl⟩
section
variable {w : World}
end
end Go.Proofs.YtngnenbidpojeaaGreatDoor
/-
  The document's machine in memory; push, pop.
-/
namespace Go.Proofs.YtngnenbidpojeaaGreatDoor
open Go.RowKit
set_option maxRecDepth 100000
set_option linter.unusedVariables false
theorem rt47F : RowT 46 193 5 48 (.agg #[.string ⟨#[]⟩, .bool false, .int .i64 0, .int .i64 0, .int .i64 0]) := ⟨Tryz.underlying46, by kernel_rfl, rfl, by omega, by omega⟩
section
variable {B : Bs} {w w' : World} {p : Nat} {m : Mc} {k : Nat} {sv ev sn tm : Value}
end
end Go.Proofs.YtngnenbidpojeaaGreatDoor
/-
  few: parts of a size that is looked at.
-/
namespace Go.Proofs.YtngnenbidpojeaaGreatDoor
set_option maxRecDepth 100000
open Go.RowKit
set_option linter.unusedVariables false
def wL (ls : List Lq) : Nat := (ls.map fun q => q.x.args.length + q.x.fr.length + 1).sum
def wT (ts : List (List UInt8)) : Nat := (ts.map fun t => t.length + 1).sum
theorem sum_step {α : Type} (f : α → Nat) (l : List α) (j : Nat) (x : α) (h : l[j]? = some x) : ((l.take (j + 1)).map f).sum = ((l.take j).map f).sum + f x := by
  rw [List.take_add_one, h]; simp
theorem sum_le {α : Type} (f : α → Nat) (l : List α) (j : Nat) : ((l.take j).map f).sum ≤ (l.map f).sum := by
  have : (l.map f).sum = ((l.take j).map f).sum + ((l.drop j).map f).sum := by
    rw [← List.sum_append, ← List.map_append, List.take_append_drop]
  omega
/-- What few tells. -/
def FewS (ls ps : List Lq) (ts : List (List UInt8)) (n : Nat) (p : Pg) (e : Ending) : Prop :=
  (e = .returned (.bool true) ∧ wL ls + wL ps + wT ts < 10000 ∧ n < 300 ∧ p.names.length ≤ 51 ∧ p.code.length ≤ 1000) ∨ e = .returned (.bool false)
section
variable {w : World}
set_option maxHeartbeats 8000000 in
theorem few8 {a1 a2 a3 a4 : Option Addr} {n1 n2 n3 n4 c1 c2 c3 c4 : Nat} {ls ps : List Lq} {ts : List (List UInt8)} {es : List Ep} {tr : Int} {v u : Value} {p : Pg}
    (hl : RowQ w (.slice a1 n1 c1) ls) (hp : RowQ w (.slice a2 n2 c2) ps) (ht : TextsIn w (.slice a3 n3 c3) ts) (he : ReadsR 2 w (.slice a4 n4 c4) (CE es)) (hb : wL ls + wL ps + wT ts ≤ 2000000)
    (hP : IsP_N w v u p) (hK : ∀ s ∈ p.names, s.length ≤ 9223372036854775807) :
    Calls Tryz.prog 8 #[.agg #[.slice a1 n1 c1, .slice a2 n2 c2, .slice a3 n3 c3, .slice a4 n4 c4, .int .i64 tr], .agg #[v, u]] w fun e w' => FewS ls ps ts es.length p e ∧ Kept [] w w' := by
  obtain ⟨av, cv, bv, dv, rfl, rfl, -, -⟩ := hP.form
  obtain ⟨W0, e0, k0, hz0, hb0, hb1⟩ := box2 w (.cells #[.slice a1 n1 c1, .slice a2 n2 c2, .slice a3 n3 c3, .slice a4 n4 c4, .int .i64 tr] 29) (.cells #[.slice av p.names.length cv, .slice bv p.code.length dv] 25)
  have HK0 := Hid.mk k0
  have HFw : Hid (∀ W, Kept [] W0 W → Calls Tryz.prog 17 #[.agg #[.slice av p.names.length cv, .slice bv p.code.length dv]] W fun e w' => FewAt_N p e ∧ Kept [] W w') := Hid.mk fun W k => few9 (hP.keep (k0.then k)) hK
  have HS : Hid (∀ W, Kept [] W0 W → (W.cell? ⟨w.heap.size, 0, none⟩ = some (.slice a1 n1 c1) ∧ W.cell? ⟨w.heap.size, 1, none⟩ = some (.slice a2 n2 c2) ∧ W.cell? ⟨w.heap.size, 2, none⟩ = some (.slice a3 n3 c3) ∧ W.cell? ⟨w.heap.size, 3, none⟩ = some (.slice a4 n4 c4) ∧ W.cell? ⟨w.heap.size, 4, none⟩ = some (.int .i64 tr)) ∧ W.cell? ⟨w.heap.size + 1, 0, none⟩ = some (.slice av p.names.length cv) ∧ W.cell? ⟨w.heap.size + 1, 1, none⟩ = some (.slice bv p.code.length dv)) := Hid.mk fun W k => ⟨cells5 (k.keeps hb0 (by simp)), cells2_N (k.keeps hb1 (by simp))⟩
  have HL : Hid (∀ W, Kept [] W0 W → RowQ W (.slice a1 n1 c1) ls) := Hid.mk fun W k => hl.kept (k0.then k) (by simp)
  have HPs : Hid (∀ W, Kept [] W0 W → RowQ W (.slice a2 n2 c2) ps) := Hid.mk fun W k => hp.kept (k0.then k) (by simp)
  have HTs : Hid (∀ W, Kept [] W0 W → TextsIn W (.slice a3 n3 c3) ts) := Hid.mk fun W k => ht.kept0 (k0.then k)
  obtain ⟨hn1, z1, z1'⟩ := hl.bound
  obtain ⟨hn2, z2, z2'⟩ := hp.bound
  obtain ⟨hn3, z3, z3'⟩ := ht.bound
  have hm1 : n1 ≤ 9223372036854775807 := by omega
  have hm2 : n2 ≤ 9223372036854775807 := by omega
  have hm3 : n3 ≤ 9223372036854775807 := by omega
  clear z1 z1' z2 z2' z3 z3'
  have hn4 : n4 = es.length := by obtain ⟨_, _, e, -⟩ := rowE_form he; injection e
  have HN := Hid.mk (And.intro hn1 (And.intro hn2 (And.intro hn3 hn4)))
  obtain ⟨S, hS⟩ : ∃ S : Nat → Nat, Hid (∀ j, S j = wL (ls.take j)) := ⟨_, Hid.mk fun _ => rfl⟩
  obtain ⟨R, hR⟩ : ∃ R : Nat → Nat, Hid (∀ j, R j = wL ls + wL (ps.take j)) := ⟨_, Hid.mk fun _ => rfl⟩
  obtain ⟨U, hU⟩ : ∃ U : Nat → Nat, Hid (∀ j, U j = wL ls + wL ps + wT (ts.take j)) := ⟨_, Hid.mk fun _ => rfl⟩
  have HSs : Hid (∀ j q, ls[j]? = some q → S (j + 1) = S j + q.x.args.length + q.x.fr.length + 1) := Hid.mk fun j q h => by rw [hS.out, hS.out]; unfold wL; rw [sum_step _ ls j q h]; omega
  have HRs : Hid (∀ j q, ps[j]? = some q → R (j + 1) = R j + q.x.args.length + q.x.fr.length + 1) := Hid.mk fun j q h => by rw [hR.out, hR.out]; unfold wL; rw [sum_step _ ps j q h]; omega
  have HUs : Hid (∀ j t, ts[j]? = some t → U (j + 1) = U j + t.length + 1) := Hid.mk fun j t h => by rw [hU.out, hU.out]; unfold wT; rw [sum_step _ ts j t h]; omega
  have HSb : Hid (∀ j, S j ≤ 2000000) := Hid.mk fun j => by rw [hS.out]; have := sum_le (fun q : Lq => q.x.args.length + q.x.fr.length + 1) ls j; unfold wL at *; omega
  have HRb : Hid (∀ j, R j ≤ 2000000) := Hid.mk fun j => by rw [hR.out]; have := sum_le (fun q : Lq => q.x.args.length + q.x.fr.length + 1) ps j; unfold wL at *; omega
  have HUb : Hid (∀ j, U j ≤ 2000000) := Hid.mk fun j => by rw [hU.out]; have := sum_le (fun t : List UInt8 => t.length + 1) ts j; unfold wT at *; omega
  have HE : Hid (S 0 = 0 ∧ S n1 = R 0 ∧ R n2 = U 0 ∧ U n3 = wL ls + wL ps + wT ts) := Hid.mk ⟨by rw [hS.out]; rfl, by rw [hS.out, hR.out, hn1, List.take_length]; simp [wL], by rw [hR.out, hU.out, hn2, List.take_length]; simp [wT], by rw [hU.out, hn3, List.take_length]⟩
  clear hl hp ht he hP hK hb k0 hb0 hb1 hz0 hn1 hn2 hn3 hn4 hS hR hU
  go_enter Tryz.func8, Tryz.ntmps8
  obtain ⟨⟨y0, y1, y2, y3, y4⟩, y5, y6⟩ := HS.out W0 (Kept.refl _ _)
  go_wp2_with fail
  clear y0 y1 y2 y3 y4 y5 y6
  go_loopw [5, 12] (fun m i wr => ∃ j : Nat, i = .int .i64 (j : Int) ∧ j ≤ n1 ∧ m = .int .i64 (S j : Int) ∧ Hid (Kept [] W0 wr)) (fun _ i _ => n1 - (intOf i).toNat)
  case atStart => exact ⟨0, rfl, by omega, by rw [HE.out.1]; rfl, Hid.mk (Kept.refl _ _)⟩
  case round =>
    obtain ⟨j, rfl, hj, rfl, KKj⟩ := hrel
    have hbj := HSb.out j
    by_cases hlt : j < n1
    · have HLT := Hid.mk hlt
      obtain ⟨q, hq⟩ : ∃ q, ls[j]? = some q := ⟨_, List.getElem?_eq_getElem (by have := HN.out.1; omega)⟩
      have KD := Hid.mk KKj.out.drew
      obtain ⟨b, o, rfl, d0, d1, d2, d3⟩ := (HL.out _ KD.out).at hq
      have d3 : World.cell? _ ⟨b, o + j * 4 + 3, none⟩ = some (.slice q.ad q.x.args.length q.cap) := d3
      have hg0 := (HS.out _ KD.out).1.1
      have HN1 := Hid.mk (HSs.out j q hq)
      have hbn := HSb.out (j + 1)
      have hjI : (j : Int) < (n1 : Int) := by omega
      have hjI0 : (0 : Int) ≤ (j : Int) := by omega
      have hqb : S j + q.x.args.length + q.x.fr.length + 1 ≤ 2000000 := by rw [← HN1.out]; exact hbn
      have hsz : (⟨q.x.fr.toArray⟩ : ByteArray).size = q.x.fr.length := by simp [ByteArray.size]
      generalize q.x.args.length = na at *
      generalize q.x.fr.length = nf at *
      have e1 : IntKind.i64.wrap ((S j : Int) + (na : Int)) = ((S j + na : Nat) : Int) := by rw [IntKind.wrap_i64]; omega
      have e2 : IntKind.i64.wrap (((S j + na : Nat) : Int) + (nf : Int)) = ((S j + na + nf : Nat) : Int) := by rw [IntKind.wrap_i64]; omega
      have e3 : IntKind.i64.wrap (((S j + na + nf : Nat) : Int) + 1) = ((S j + na + nf + 1 : Nat) : Int) := by rw [IntKind.wrap_i64]; omega
      have HEE := Hid.mk (And.intro e1 (And.intro e2 e3))
      clear hq hbn e1 e2 e3 d1 d2
      go_wp2_with fail
      go_region_held3 (fun V => V.cell? ⟨w.heap.size, 0, none⟩ = some (.slice (some ⟨b, o, none⟩) n1 c1) ∧ V.cell? ⟨b, o + j * 4, none⟩ = some (Sv q.x.fr) ∧ V.cell? ⟨b, o + j * 4 + 3, none⟩ = some (.slice q.ad na q.cap)) (first | exact ⟨hg0, d0, d3⟩) (fail)
      rw [HEE.out.1, HEE.out.2.1, HEE.out.2.2, ← HN1.out]
      clear HEE HN1 hqb hsz hg0 d0 d3
      go_wp2_with fail
      go_roundw
      case rel => exact ⟨j + 1, by go_num, by have := HLT.out; omega, rfl, KD⟩
      case measure => (have := HLT.out; simp [intOf]; omega)
    · obtain rfl : j = n1 := by omega
      have hjI : ((j : Int) < (j : Int)) = False := eq_false (by omega)
      rw [HE.out.2.1]
      obtain ⟨⟨-, y1, -, -, -⟩, -⟩ := HS.out wr KKj.out
      have HKj := Hid.mk KKj.out
      clear hbj hjI
      go_wp2_with fail
      clear y1
      go_loopw [5, 37] (fun m i w2 => ∃ k : Nat, i = .int .i64 (k : Int) ∧ k ≤ n2 ∧ m = .int .i64 (R k : Int) ∧ Hid (Kept [] W0 w2)) (fun _ i _ => n2 - (intOf i).toNat)
      case atStart => exact ⟨0, rfl, by omega, rfl, HKj⟩
      case round =>
        obtain ⟨k, rfl, hk, rfl, KKk⟩ := hrel
        have hbk := HRb.out k
        by_cases hlt : k < n2
        · have HLT := Hid.mk hlt
          obtain ⟨q, hq⟩ : ∃ q, ps[k]? = some q := ⟨_, List.getElem?_eq_getElem (by have := HN.out.2.1; omega)⟩
          have KD := Hid.mk KKk.out.drew
          obtain ⟨b, o, rfl, d0, d1, d2, d3⟩ := (HPs.out _ KD.out).at hq
          have d3 : World.cell? _ ⟨b, o + k * 4 + 3, none⟩ = some (.slice q.ad q.x.args.length q.cap) := d3
          have hg0 := (HS.out _ KD.out).1.2.1
          have HN1 := Hid.mk (HRs.out k q hq)
          have hbn := HRb.out (k + 1)
          have hjI : (k : Int) < (n2 : Int) := by omega
          have hjI0 : (0 : Int) ≤ (k : Int) := by omega
          have hqb : R k + q.x.args.length + q.x.fr.length + 1 ≤ 2000000 := by rw [← HN1.out]; exact hbn
          have hsz : (⟨q.x.fr.toArray⟩ : ByteArray).size = q.x.fr.length := by simp [ByteArray.size]
          generalize q.x.args.length = na at *
          generalize q.x.fr.length = nf at *
          have e1 : IntKind.i64.wrap ((R k : Int) + (na : Int)) = ((R k + na : Nat) : Int) := by rw [IntKind.wrap_i64]; omega
          have e2 : IntKind.i64.wrap (((R k + na : Nat) : Int) + (nf : Int)) = ((R k + na + nf : Nat) : Int) := by rw [IntKind.wrap_i64]; omega
          have e3 : IntKind.i64.wrap (((R k + na + nf : Nat) : Int) + 1) = ((R k + na + nf + 1 : Nat) : Int) := by rw [IntKind.wrap_i64]; omega
          have HEE := Hid.mk (And.intro e1 (And.intro e2 e3))
          clear hq hbn e1 e2 e3 d1 d2
          go_wp2_with fail
          go_region_held3 (fun V => V.cell? ⟨w.heap.size, 1, none⟩ = some (.slice (some ⟨b, o, none⟩) n2 c2) ∧ V.cell? ⟨b, o + k * 4, none⟩ = some (Sv q.x.fr) ∧ V.cell? ⟨b, o + k * 4 + 3, none⟩ = some (.slice q.ad na q.cap)) (first | exact ⟨hg0, d0, d3⟩) (fail)
          rw [HEE.out.1, HEE.out.2.1, HEE.out.2.2, ← HN1.out]
          clear HEE HN1 hqb hsz hg0 d0 d3
          go_wp2_with fail
          go_roundw
          case rel => exact ⟨k + 1, by go_num, by have := HLT.out; omega, rfl, KD⟩
          case measure => (have := HLT.out; simp [intOf]; omega)
        · obtain rfl : k = n2 := by omega
          have hjI : ((k : Int) < (k : Int)) = False := eq_false (by omega)
          rw [HE.out.2.2.1]
          obtain ⟨⟨-, -, y2, -, -⟩, -⟩ := HS.out wr KKk.out
          have HKk := Hid.mk KKk.out
          clear hbk hjI
          go_wp2_with fail
          clear y2
          go_loopw [5, 62] (fun v i w3 => ∃ m : Nat, i = .int .i64 (m : Int) ∧ m ≤ n3 ∧ v = .int .i64 (U m : Int) ∧ Hid (Kept [] W0 w3)) (fun _ i _ => n3 - (intOf i).toNat)
          case atStart => exact ⟨0, rfl, by omega, rfl, HKk⟩
          case round =>
            obtain ⟨m, rfl, hm, rfl, KKm⟩ := hrel
            have hbm := HUb.out m
            by_cases hlt : m < n3
            · have HLT := Hid.mk hlt
              obtain ⟨t, ht⟩ : ∃ t, ts[m]? = some t := ⟨_, List.getElem?_eq_getElem (by have := HN.out.2.2.1; omega)⟩
              obtain ⟨b, o, rfl, d0⟩ := (HTs.out _ KKm.out).at ht
              have hg0 := (HS.out _ KKm.out).1.2.2.1
              have HN1 := Hid.mk (HUs.out m t ht)
              have hbn := HUb.out (m + 1)
              have hjI : (m : Int) < (n3 : Int) := by omega
              have hjI0 : (0 : Int) ≤ (m : Int) := by omega
              have hqb : U m + t.length + 1 ≤ 2000000 := by rw [← HN1.out]; exact hbn
              have hsz : (⟨t.toArray⟩ : ByteArray).size = t.length := by simp [ByteArray.size]
              generalize t.length = nt at *
              clear ht hbn
              go_wp2_with fail
              go_roundw
              case rel => exact ⟨m + 1, by go_num, by have := HLT.out; omega, by rw [HN1.out]; go_num, KKm⟩
              case measure => (have := HLT.out; simp [intOf]; omega)
            · obtain rfl : m = n3 := by omega
              have hjI : ((m : Int) < (m : Int)) = False := eq_false (by omega)
              obtain ⟨⟨-, -, -, y3, -⟩, y5, y6⟩ := HS.out wr KKm.out
              have hUe := HE.out.2.2.2
              rw [hUe]
              rw [hUe] at hbm
              have HF := Hid.mk (HFw.out wr KKm.out)
              have h4 := HN.out.2.2.2
              generalize hWW : wL ls + wL ps + wT ts = WW at *
              by_cases hw : WW < 10000
              · have hwI : (WW : Int) < 10000 := by omega
                by_cases h3 : n4 < 300
                · have h3I : (n4 : Int) < 300 := by omega
                  have HH := Hid.mk (And.intro hw (And.intro h3 (And.intro hWW h4)))
                  clear hw h3 hWW h4 hUe
                  go_wp2_with fail
                  refine HF.out.mono ?_
                  rintro e w5 ⟨hf, k5⟩
                  obtain ⟨q1, q2, q3, q4⟩ := HH.out
                  have kf := HK0.out.then (KKm.out.then k5)
                  clear HH k5
                  rcases hf with ⟨rfl, -, f2, f3⟩ | rfl
                  · go_wp2_with fail
                    go_ret
                    exact ⟨.inl ⟨rfl, by omega, by omega, f2, f3⟩, kf⟩
                  · go_wp2_with fail
                    go_ret
                    exact ⟨.inr rfl, kf⟩
                · have h3I : ((n4 : Int) < 300) = False := eq_false (by omega)
                  clear hw h3 hWW h4 hUe
                  go_wp2_with fail
                  go_ret
                  exact ⟨.inr rfl, HK0.out.then KKm.out⟩
              · have hwI : ((WW : Int) < 10000) = False := eq_false (by omega)
                clear hw hWW h4 hUe
                go_wp2_with fail
                go_ret
                exact ⟨.inr rfl, HK0.out.then KKm.out⟩
end
end Go.Proofs.YtngnenbidpojeaaGreatDoor
/-
  The order of an outbox' letters, held from the last one to the first: pure.
-/
namespace Go.Proofs.YtngnenbidpojeaaGreatDoor
set_option maxRecDepth 100000
set_option linter.unusedVariables false
/-- From the last letter to the first, with the serials that are left. -/
def ordB : List La → List Ot → Bool
  | _, [] => true
  | K, y :: A => hasK K y.to && (ser K y.to != 0) && (y.x.ser == ser K y.to) && ordB (setK K y.to (ser K y.to - 1)) A
theorem ordR_cons (k : List UInt8) (y : Ot) (A : List Ot) (s : Nat) : ordR k (y :: A) s = if y.to = k then (s != 0) && (y.x.ser == s) && ordR k A (s - 1) else ordR k A s := by
  rw [ordR]
  by_cases h : y.to = k
  · simp [h]
    by_cases h0 : s = 0 <;> by_cases h1 : y.x.ser = s <;> simp [h0, h1]
  · simp [h]
theorem setK_set_mem {K : List La} {to : List UInt8} {s : Nat} (hr : Rise K) (hh : hasK K to = true) (z : La) : z ∈ setK K to s ↔ z = ⟨to, s⟩ ∨ (z ∈ K ∧ z.k ≠ to) := by
  constructor
  · intro hz
    have hr' := hr.setK (to := to) s
    rcases setK_mem hz with h | h
    · exact .inl h
    · by_cases e : z.k = to
      · left
        have h1 := ser_mem hr' hz
        rw [e, (ser_set_same K to s).1] at h1
        obtain ⟨k, t⟩ := z
        simp at e h1
        rw [e, h1]
      · exact .inr ⟨h, e⟩
  · rintro (rfl | ⟨h, e⟩)
    · have h2 := (ser_set_same K to s).2
      obtain ⟨t, h3, h4⟩ := has_at h2
      rw [(ser_set_same K to s).1] at h4
      subst h4
      exact List.mem_of_getElem? h3
    · have h1 := (ser_set_other (to := to) s hr e)
      have h2 : hasK K z.k = true := (has_mem hr).2 ⟨z, h, rfl⟩
      have h3 := ser_mem hr h
      rw [h2] at h1
      obtain ⟨t, h4, h5⟩ := has_at h1.2
      rw [h1.1, h3] at h5
      have : z = ⟨z.k, t⟩ := by obtain ⟨k, s'⟩ := z; simp at h5; simp [h5]
      rw [this]
      exact List.mem_of_getElem? h4
theorem ordB_iff : ∀ (A : List Ot) {K : List La}, Rise K → (ordB K A = true ↔ (∀ y ∈ A, hasK K y.to = true) ∧ ∀ z ∈ K, ordR z.k A z.s = true)
  | [], K, hr => by simp [ordB, ordR]
  | y :: A, K, hr => by
    rw [ordB]
    simp only [Bool.and_eq_true]
    constructor
    · rintro ⟨⟨⟨h1, h2⟩, h3⟩, h4⟩
      have ih := (ordB_iff A (hr.setK (to := y.to) _)).1 h4
      refine ⟨fun z hz => ?_, fun z hz => ?_⟩
      · rcases List.mem_cons.1 hz with rfl | hz
        · exact h1
        · have := ih.1 z hz
          by_cases e : z.to = y.to
          · rw [e]; exact h1
          · rw [(ser_set_other _ hr e).2] at this; exact this
      · rw [ordR_cons]
        by_cases e : y.to = z.k
        · rw [if_pos e]
          have hs := ser_mem hr hz
          rw [← e] at hs
          have := ih.2 ⟨y.to, ser K y.to - 1⟩ ((setK_set_mem hr h1 _).2 (.inl rfl))
          rw [← hs]
          simp only [Bool.and_eq_true]
          rw [← e]
          exact ⟨⟨h2, h3⟩, this⟩
        · rw [if_neg e]
          exact ih.2 z ((setK_set_mem hr h1 _).2 (.inr ⟨hz, fun h => e h.symm⟩))
    · rintro ⟨h1, h2⟩
      have hh := h1 y (by simp)
      obtain ⟨s, g1, g2⟩ := has_at hh
      have hz := List.mem_of_getElem? g1
      have h3 := h2 _ hz
      rw [ordR_cons, if_pos rfl] at h3
      simp only [Bool.and_eq_true] at h3
      rw [g2]
      refine ⟨⟨⟨hh, h3.1.1⟩, h3.1.2⟩, (ordB_iff A (hr.setK (to := y.to) _)).2 ⟨fun z hz => ?_, fun z hz => ?_⟩⟩
      · have := h1 z (by simp [hz])
        by_cases e : z.to = y.to
        · rw [e]; exact (ser_set_same _ _ _).2
        · rw [(ser_set_other _ hr e).2]; exact this
      · rcases (setK_set_mem hr hh z).1 hz with rfl | ⟨hz', e⟩
        · exact h3.2
        · have := h2 z hz'
          rw [ordR_cons, if_neg (fun h => e h.symm)] at this
          exact this
theorem ordB_ord {K : List La} (hr : Rise K) (L : List Ot) : ordB K L.reverse = (decide (∀ y ∈ L, hasK K y.to = true) && ordO K L) := by
  rw [Bool.eq_iff_iff, ordB_iff _ hr]
  simp [ordO]
end Go.Proofs.YtngnenbidpojeaaGreatDoor
