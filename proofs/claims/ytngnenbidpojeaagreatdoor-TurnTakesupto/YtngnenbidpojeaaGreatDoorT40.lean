import Derived.Test.YtngnenbidpojeaaGreatDoorCards
import Derived.Test.YtngnenbidpojeaaGreatDoorTie
import Derived.Test.YtngnenbidpojeaaGreatDoorRows
import Derived.ProofKit
import Derived.LaidLaws
import Derived.Deep.DeepHandedRow
import Derived.Deep.DeepWitnessRowRef
import Derived.ChangeSlices
import Derived.Test.YtngnenbidpojeaaGreatDoorT09
import Derived.Test.YtngnenbidpojeaaGreatDoorT11
import Derived.Test.YtngnenbidpojeaaGreatDoorT14
import Derived.Test.YtngnenbidpojeaaGreatDoorT18
import Derived.Test.YtngnenbidpojeaaGreatDoorT38
/-
 The document's Copy: the poison lies in new memory, too.
-/
namespace Go.Proofs.YtngnenbidpojeaaGreatDoor
set_option maxRecDepth 100000
open Go.RowKit
set_option linter.unusedVariables false
def AFf (w0 w : World) (f fj fi fo : Nat) (a : Ac) : Prop := ∃ v, FA w0 w f fj fi fo a.tries v a ∧ PoiO w v a.poi ∧ GoodP a ∧ Fresh w0 v
section
variable {w : World} {a : Ac}
theorem af_newF {Wk : World} {gj gi go : Nat} {uj v3 uo xo v5 : Value} {qs : List Lq} {ys : List Yq} (hJ : IsF_J Wk gj uj a.j) (hfj : Fresh w uj) (hgj : w.heap.size ≤ gj) (hI : Wk.heap[gi]? = some (.cells #[v3] 56 (0, 0))) (hgi : w.heap.size ≤ gi)
  (hL : OwnL w Wk v3 qs) (hq : qs.map (·.x) = a.inb) (hO : IsF w Wk go uo xo a.out.own a.out.K ys) (hy : ys.map ot = a.out.L) (hP : PoiO Wk v5 a.poi ∧ Fresh w v5) (g : GoodP a) (k : Kept [] w Wk) :
  AFf w (Wk.alloc (.cells #[Ptr gj, Ptr gi, Ptr go, Iv a.tries, v5] 61)) Wk.heap.size gj gi go a := by
 have kA := (Kept.refl [] Wk).alloc (.cells #[Ptr gj, Ptr gi, Ptr go, Iv a.tries, v5] 61)
 exact ⟨v5, ⟨heap_alloc_new Wk _, ⟨uj, hJ.kept0 kA, hfj⟩, ⟨v3, qs, ⟨kA.keeps hI (by simp), hL.kept0 kA, hgi⟩, hq⟩, ⟨uo, xo, ys, hO.kept0 kA, hy⟩, k.size, hgj⟩, hP.1.kept0 kA, g, hP.2⟩
end
def CpF (w : World) (a : Ac) (e : Ending) (w' : World) : Prop := ∃ f' fj' fi' fo', e = .returned (Ptr f') ∧ AFf w w' f' fj' fi' fo' a ∧ Kept [] w w'
section
variable {w0 w : World} {f fj fi fo : Nat} {a : Ac}
set_option maxHeartbeats 8000000 in
theorem copyA38F (h : AF w0 w f fj fi fo a) (hp : a.poi.length ≤ 8) (hpf : ∀ x ∈ a.poi, x.formed = true) : Calls Tryz.prog 38 #[Ptr f] w (CpF w a) := by
 obtain ⟨v, hfa, hpo, hg⟩ := h
 obtain ⟨av, cv, rfl⟩ := hpo.form
 obtain ⟨uj, hJ, -⟩ := hfa.j
 obtain ⟨ui, qs, hI, hq⟩ := hfa.i
 obtain ⟨uo, xo, ys, hO, hy⟩ := hfa.o
 obtain ⟨ai, ci, rfl, -, -⟩ := hI.own.row.form
 have HFA := Hid.mk hfa
 have HS : Hid (∀ W, Kept [] w W → W.cell? ⟨f, 0, none⟩ = some (Ptr fj) ∧ W.cell? ⟨f, 1, none⟩ = some (Ptr fi) ∧ W.cell? ⟨f, 2, none⟩ = some (Ptr fo) ∧ W.cell? ⟨f, 3, none⟩ = some (Iv a.tries) ∧ W.cell? ⟨f, 4, none⟩ = some (.slice av a.poi.length cv) ∧ W.cell? ⟨fi, 0, none⟩ = some (.slice ai qs.length ci)) := Hid.mk fun W k => by
  obtain ⟨d0, d1, d2, d3, d4⟩ := (HFA.out.kept0 k).cells
  exact ⟨d0, d1, d2, d3, d4, cell_of_one (hI.kept0 k).box⟩
 have H99 : Hid (∀ W, Kept [] w W → Calls Tryz.prog 99 #[Ptr fj] W fun e w' => ∃ g u, e = .returned (Ptr g) ∧ IsF_J w' g u a.j ∧ Fresh W u ∧ Kept [] W w' ∧ W.heap.size ≤ g) := Hid.mk fun W k => copyJ99 (hJ.kept0 k) (by have := hg.j.e16; omega)
 have H30 : Hid (∀ W, Kept [] w W → Calls Tryz.prog 30 #[.slice ai qs.length ci] W fun e w' => ∃ v, e = .returned v ∧ ∃ l, OwnL W w' v l ∧ l.map (·.x) = a.inb ∧ Kept [] W w') := Hid.mk fun W k => by
  have h8 := hg.i8
  rw [← hq, List.length_map] at h8
  refine (copyAll57 (hI.kept0 k).own.row (hI.kept0 k).own.vals (by omega) (fun q hqm => ?_)).mono ?_
  ·have := formed_le (hg.inb q.x (by rw [← hq]; exact List.mem_map.2 ⟨q, hqm, rfl⟩)).2
   omega
  ·rintro e w' ⟨v, rfl, l, h1, h2, h3⟩
   exact ⟨v, rfl, l, h1, h2.trans hq, h3⟩
 have H100 : Hid (∀ W, Kept [] w W → Calls Tryz.prog 100 #[Ptr fo] W fun e w' => ∃ g v' u' ms', e = .returned (Ptr g) ∧ IsF W w' g v' u' a.out.own a.out.K ms' ∧ ms'.map ot = a.out.L ∧ Kept [] W w') := Hid.mk fun W k => by
  have hln := hg.out.ln
  rw [← hy, List.length_map] at hln
  refine (copyO100 (hO.kept0 k) hg.out.kn hln (fun y hym => ?_)).mono ?_
  ·have := formed_le (hg.out.lets (ot y) (by rw [← hy]; exact List.mem_map.2 ⟨y, hym, rfl⟩)).2.1
   exact this.2
  ·rintro e w' ⟨g, v', u', ms', rfl, h1, h2, h3⟩
   exact ⟨g, v', u', ms', rfl, h1, h2.trans hy, h3⟩
 have H30p : Hid (∀ W, Kept [] w W → Calls Tryz.prog 30 #[.slice av a.poi.length cv] W fun e w' => ∃ a5 c5, e = .returned (.slice a5 a.poi.length c5) ∧ (PoiO w' (.slice a5 a.poi.length c5) a.poi ∧ Fresh w (.slice a5 a.poi.length c5)) ∧ Kept [] W w') := Hid.mk fun W k => by
  obtain ⟨ms, m1, m2, m3⟩ := (hpo.kept0 k).at
  refine (copyAll57 m1 m2 (by omega) (fun q hqm => ?_)).mono ?_
  ·have := formed_le (hpf q.x (by rw [← m3]; exact List.mem_map.2 ⟨q, hqm, rfl⟩))
   omega
  ·rintro e w' ⟨v, rfl, l, h1, h2, h3⟩
   have hFr : Fresh w v := fun g hg => Nat.le_trans k.size (h1.fr g hg)
   have hP := PoiO.of h1
   rw [h2, m3] at hP
   obtain ⟨a5, c5, rfl⟩ := hP.form
   exact ⟨a5, c5, rfl, ⟨hP, hFr⟩, h3⟩
 have KD : Hid (Kept [] w w.drew) := Hid.mk (Kept.refl [] w).drew
 have S0 := HS.out _ KD.out
 have HG := Hid.mk hg
 clear hfa hpo hg hJ hI hq hO hy hp hpf
 generalize htr : a.tries = tr at *
 generalize hpl : a.poi.length = pl at *
 generalize hql : qs.length = ql at *
 have HTR := Hid.mk htr
 clear htr hpl hql
 go_enter Tryz.func38, Tryz.ntmps38
 go_wp2_with fail
 go_region_held3 (fun W => W.cell? ⟨f, 0, none⟩ = some (Ptr fj) ∧ W.cell? ⟨f, 1, none⟩ = some (Ptr fi) ∧ W.cell? ⟨f, 2, none⟩ = some (Ptr fo) ∧ W.cell? ⟨f, 3, none⟩ = some (Iv tr) ∧ W.cell? ⟨f, 4, none⟩ = some (.slice av pl cv) ∧ W.cell? ⟨fi, 0, none⟩ = some (.slice ai ql ci)) (first | with_reducible exact S0 | with_reducible exact HS.out _ K5.out | with_reducible exact HS.out _ K4.out | with_reducible exact HS.out _ K3.out | with_reducible exact HS.out _ K2.out | with_reducible exact HS.out _ (K5.out.alloc _) | with_reducible exact HS.out _ ((K5.out.alloc _).alloc _) | with_reducible exact HS.out _ (K4.out.alloc _) | with_reducible exact HS.out _ (K3.out.alloc _))
  (first
   | (go_at_call 30; first | ((revert hLI; intro hLI); first | (with_reducible refine (H30p.out _ K4.out).mono ?_; rintro e w5 ⟨a5, c5, rfl, hP5, k5⟩; have K5 : Hid (Kept [] w w5) := Hid.mk (K4.out.then k5); have HP5 := Hid.mk hP5; have K45 : Hid (Kept [] w4 w5) := Hid.mk k5; clear hP5 k5) | (with_reducible refine (H30p.out _ (K4.out.alloc _)).mono ?_; rintro e w5 ⟨a5, c5, rfl, hP5, k5⟩; have K5 : Hid (Kept [] w w5) := Hid.mk ((K4.out.alloc _).then k5); have HP5 := Hid.mk hP5; have K45 : Hid (Kept [] w4 w5) := Hid.mk (((Kept.refl [] w4).alloc _).then k5); have HBB := Hid.mk (k5.keeps (heap_alloc_new w4 (.cells #[.slice a3 l3.length c3] 56)) (by simp)); clear hP5 k5)) | (with_reducible refine (H30.out _ K2.out).mono ?_; rintro e w3 ⟨v3, rfl, l3, hL3, hm3, k3⟩; obtain ⟨a3, c3, rfl, -, -⟩ := hL3.row.form; have K3 : Hid (Kept [] w w3) := Hid.mk (K2.out.then k3); have HL3 := Hid.mk (And.intro hL3 hm3); have K23 : Hid (Kept [] w2 w3) := Hid.mk k3; clear hL3 hm3 k3))
   | (go_at_call 100; first | (with_reducible refine (H100.out _ K3.out).mono ?_; rintro e w4 ⟨go, uo4, xo4, ys4, rfl, hO4, hy4, k4⟩; have K4 : Hid (Kept [] w w4) := Hid.mk (K3.out.then k4); have HO4 := Hid.mk (And.intro hO4 hy4); have K34 : Hid (Kept [] w3 w4) := Hid.mk k4; have hLI := trivial; clear hO4 hy4 k4) | (with_reducible refine (H100.out _ (K3.out.alloc _)).mono ?_; rintro e w4 ⟨go, uo4, xo4, ys4, rfl, hO4, hy4, k4⟩; have K4 : Hid (Kept [] w w4) := Hid.mk ((K3.out.alloc _).then k4); have HO4 := Hid.mk (And.intro hO4 hy4); have K34 : Hid (Kept [] w3 w4) := Hid.mk (((Kept.refl [] w3).alloc _).then k4); have HBA := Hid.mk (k4.keeps (heap_alloc_new w3 (.cells #[.slice a3 l3.length c3] 56)) (by simp)); have hLI := trivial; clear hO4 hy4 k4))
   | (go_at_call 99; refine (H99.out _ KD.out).mono ?_; rintro e w2 ⟨gj, uj2, rfl, hJ2, hfj2, k2, hgj2⟩; have K2 : Hid (Kept [] w w2) := Hid.mk (KD.out.then k2); have HJ2 := Hid.mk (And.intro hJ2 (And.intro hfj2 hgj2)); clear hJ2 hfj2 k2 hgj2))
 all_goals
  have e := HTR.out
  subst e
  go_wp2_with fail
  go_ret
  unfold CpF
  have q3 := HL3.out.1.elder (w0 := w) K2.out.size
  have q4 := isF_elder (w0 := w) HO4.out.1 (by first | exact K3.out.size | exact (K3.out.alloc _).size)
  have k5 := K45.out
  have k35 := K34.out.then k5
  have z3 := K3.out.size
  have z4 := K4.out.size
  have z5 := K5.out.size
  have b2 : Fresh w uj2 := HJ2.out.2.1
  have b3 : w.heap.size ≤ gj := HJ2.out.2.2
  first
  | exact ⟨_, _, _, _, rfl, af_newF ((HJ2.out.1.kept0 K23.out).kept0 k35) b2 b3 (k5.keeps HBA.out (by simp)) z3 (q3.kept0 k35) HL3.out.2 (q4.kept0 k5) HO4.out.2 HP5.out HG.out K5.out, K5.out.alloc _⟩
  | exact ⟨_, _, _, _, rfl, af_newF ((HJ2.out.1.kept0 K23.out).kept0 k35) b2 b3 HBB.out z4 (q3.kept0 k35) HL3.out.2 (q4.kept0 k5) HO4.out.2 HP5.out HG.out K5.out, K5.out.alloc _⟩
  | (have kA := (Kept.refl [] w5).alloc (.cells #[.slice a3 l3.length c3] 56)
     have hz : (w5.alloc (.cells #[.slice a3 l3.length c3] 56)).heap.size = w5.heap.size + 1 := by simp
     have := af_newF (((HJ2.out.1.kept0 K23.out).kept0 k35).kept0 kA) b2 b3 (heap_alloc_new w5 (.cells #[.slice a3 l3.length c3] 56)) z5 ((q3.kept0 k35).kept0 kA) HL3.out.2 ((q4.kept0 k5).kept0 kA) HO4.out.2 ⟨HP5.out.1.kept0 kA, HP5.out.2⟩ HG.out (K5.out.then kA)
     rw [hz] at this
     exact ⟨_, _, _, _, rfl, this, (K5.out.then kA).alloc _⟩)
end
section
variable {w : World}
set_option maxHeartbeats 8000000 in
theorem sameOuts44 {a a' : Option Addr} {n c c' : Nat} {l m : List Yq} (hr : ReadsR 5 w (.slice a n c) (CY l)) (hr' : ReadsR 5 w (.slice a' n c') (CY m)) (hv : ∀ y ∈ l, ReadsJ w y.q.sl y.q.x.args) (hv' : ∀ y ∈ m, ReadsJ w y.q.sl y.q.x.args) (hm : l.map ot = m.map ot) (hn : n = l.length) (hl : n ≤ 1000000) (ha : ∀ y ∈ l, y.q.x.args.length ≤ 1000000) :
  Calls Tryz.prog 51 #[.slice a n c, .slice a' n c'] w fun e w' => e = .returned (.bool true) ∧ Kept [] w w' := by
 obtain ⟨hc1, hc2⟩ : n ≤ c ∧ c ≤ 9223372036854775807 := by
  obtain ⟨a0, c0, e0, h1, h2⟩ := rowY_form hr
  injection e0 with e1 e2 e3
  omega
 obtain ⟨hc3, hc4⟩ : n ≤ c' ∧ c' ≤ 9223372036854775807 := by
  obtain ⟨a0, c0, e0, h1, h2⟩ := rowY_form hr'
  injection e0 with e1 e2 e3
  omega
 have HR := Hid.mk hr
 have HR' := Hid.mk hr'
 have HN := Hid.mk hn
 have HV := Hid.mk hv
 have HV' := Hid.mk hv'
 have HM := Hid.mk hm
 have HA := Hid.mk ha
 clear hr hr' hv hv' hm ha hn
 go_enter Tryz.func51, Tryz.ntmps51
 go_wp2_with fail
 go_loopw [13] (fun i wr => ∃ j : Nat, i = .int .i64 (j : Int) ∧ j ≤ n ∧ Hid (Kept [] w wr)) (fun i _ => n - (intOf i).toNat)
 case atStart => exact ⟨0, rfl, by omega, Hid.mk (Kept.refl [] w)⟩
 case round =>
  obtain ⟨j, rfl, hj, kk⟩ := hrel
  by_cases hlt : j < n
  ·obtain ⟨y, hy⟩ : ∃ y, l[j]? = some y := ⟨_, List.getElem?_eq_getElem (by have := HN.out; omega)⟩
   obtain ⟨z, hz, t1, t2⟩ := ot_at HM.out hy
   obtain ⟨b, o, rfl, -⟩ := rowY_at HR.out hy
   obtain ⟨b', o', rfl, -⟩ := rowY_at HR'.out hz
   have hjI : (j : Int) < (n : Int) := by omega
   have HS : Hid (∀ W, Kept [] w W → W.cell? ⟨b, o + j * 5, none⟩ = some (Sv y.to) ∧ W.cell? ⟨b, o + j * 5 + 1, none⟩ = some (Sv y.q.x.fr) ∧ W.cell? ⟨b, o + j * 5 + 2, none⟩ = some (.int .u64 (y.q.x.ser : Int)) ∧ W.cell? ⟨b, o + j * 5 + 3, none⟩ = some (.int .i64 y.q.x.kind) ∧ W.cell? ⟨b, o + j * 5 + 4, none⟩ = some (.slice y.q.ad y.q.x.args.length y.q.cap) ∧
     W.cell? ⟨b', o' + j * 5, none⟩ = some (Sv y.to) ∧ W.cell? ⟨b', o' + j * 5 + 1, none⟩ = some (Sv y.q.x.fr) ∧ W.cell? ⟨b', o' + j * 5 + 2, none⟩ = some (.int .u64 (y.q.x.ser : Int)) ∧ W.cell? ⟨b', o' + j * 5 + 3, none⟩ = some (.int .i64 y.q.x.kind) ∧ W.cell? ⟨b', o' + j * 5 + 4, none⟩ = some (.slice z.q.ad y.q.x.args.length z.q.cap)) := Hid.mk fun W k => by
    obtain ⟨b1, o1, e1, x0, x1, x2, x3, x4⟩ := rowY_at (HR.out.kept k (by simp)) hy
    obtain ⟨b2, o2, e2, y0, y1, y2, y3, y4⟩ := rowY_at (HR'.out.kept k (by simp)) hz
    injection e1 with e1
    injection e1 with e11 e12
    injection e2 with e2
    injection e2 with e21 e22
    subst e11 e12 e21 e22
    rw [← t1] at y0
    rw [← t2] at y1 y2 y3
    have y4 : W.cell? ⟨b', o' + j * 5 + 4, none⟩ = some (.slice z.q.ad z.q.x.args.length z.q.cap) := y4
    rw [← t2] at y4
    exact ⟨x0, x1, x2, x3, x4, y0, y1, y2, y3, y4⟩
   have S0 := HS.out _ kk.out.drew
   have HC : Hid (Calls Tryz.prog 103 #[Lv y.q.x y.q.ad y.q.cap, Lv y.q.x z.q.ad z.q.cap] wr.drew fun e w' => e = .returned (.bool true) ∧ Kept [] wr.drew w') := Hid.mk (by
    have hz' := HV'.out z (List.mem_of_getElem? hz)
    have h1 : ReadsJ w (.slice z.q.ad y.q.x.args.length z.q.cap) y.q.x.args := by rw [t2]; exact hz'
    have := same16 y.q.x y.q.x y.q.ad z.q.ad y.q.cap z.q.cap ((HV.out y (List.mem_of_getElem? hy)).kept kk.out.drew (by simp)) (h1.kept kk.out.drew (by simp)) (by have := HA.out y (List.mem_of_getElem? hy); omega)
    rw [sameL_refl] at this
    exact this)
   clear hy hz t1 t2
   go_wp2_with fail
   go_region_held3 (fun W => W.cell? ⟨b, o + j * 5, none⟩ = some (Sv y.to) ∧ W.cell? ⟨b, o + j * 5 + 1, none⟩ = some (Sv y.q.x.fr) ∧ W.cell? ⟨b, o + j * 5 + 2, none⟩ = some (.int .u64 (y.q.x.ser : Int)) ∧ W.cell? ⟨b, o + j * 5 + 3, none⟩ = some (.int .i64 y.q.x.kind) ∧ W.cell? ⟨b, o + j * 5 + 4, none⟩ = some (.slice y.q.ad y.q.x.args.length y.q.cap) ∧
     W.cell? ⟨b', o' + j * 5, none⟩ = some (Sv y.to) ∧ W.cell? ⟨b', o' + j * 5 + 1, none⟩ = some (Sv y.q.x.fr) ∧ W.cell? ⟨b', o' + j * 5 + 2, none⟩ = some (.int .u64 (y.q.x.ser : Int)) ∧ W.cell? ⟨b', o' + j * 5 + 3, none⟩ = some (.int .i64 y.q.x.kind) ∧ W.cell? ⟨b', o' + j * 5 + 4, none⟩ = some (.slice z.q.ad y.q.x.args.length z.q.cap)) (first | with_reducible exact S0 | with_reducible exact HS.out _ HK1.out) (first | (go_at_call 103; refine HC.out.mono ?_; rintro e w1 ⟨rfl, k1⟩; have HK1 := Hid.mk (kk.out.drew.trans k1 (by simp)); clear k1))
   clear S0 HC HS kk
   go_wp2_with fail
   go_roundw
   case rel => exact ⟨j + 1, by go_num, by omega, HK1⟩
   case measure => simp [intOf]; omega
  ·obtain rfl : j = n := by omega
   have hjI : ((j : Int) < (j : Int)) = False := eq_false (by omega)
   go_wp2_with fail
   go_ret
   exact ⟨rfl, kk.out⟩
end
section
variable {w : World} {p f : Nat} {a : Ac}
set_option maxHeartbeats 8000000 in
theorem same9 (hp : IsAct w p a) (hf : IsAf w f a) (hp8 : a.poi.length ≤ 1000000) (harg : ∀ x ∈ a.poi, x.args.length ≤ 1000000) : Calls Tryz.prog 15 #[Ptr p, Ptr f] w fun e w' => e = .returned (.bool true) ∧ Kept [] w w' := by
 have hg : GoodP a := by obtain ⟨_, _, _, _, _, _, _, _, h⟩ := hp; exact h.g
 have hargi : ∀ x ∈ a.inb, x.args.length ≤ 1000000 := fun x hx => by have := formed_le (hg.inb x hx).2; omega
 have HP0 := Hid.mk hp
 have HF0 := Hid.mk hf
 obtain ⟨pj, pi, po, av, cv, qs, ys, ms, h⟩ := hp
 obtain ⟨w0, fj, fi, fo, uj, ui, uo, xo, av', cv', qs', ys', ms', h'⟩ := hf
 obtain ⟨ai, ci, hui, -, -⟩ := h'.i.own.row.form
 subst hui
 obtain ⟨ao, co, huo, -, -⟩ := h'.o.ys.row.form
 rw [CY, List.length_map] at huo
 subst huo
 obtain ⟨ax, cx, hxo, -, -⟩ := rowK_form h'.o.krow
 subst hxo
 have HP := Hid.mk h
 have HF := Hid.mk h'
 have HS : Hid (∀ W, Kept [] w W → W.cell? ⟨p, 1, none⟩ = some (Ptr pi) ∧ W.cell? ⟨p, 2, none⟩ = some (Ptr po) ∧ W.cell? ⟨p, 3, none⟩ = some (Iv a.tries) ∧ W.cell? ⟨p, 4, none⟩ = some (.slice av a.poi.length cv) ∧
   W.cell? ⟨f, 1, none⟩ = some (Ptr fi) ∧ W.cell? ⟨f, 2, none⟩ = some (Ptr fo) ∧ W.cell? ⟨f, 3, none⟩ = some (Iv a.tries) ∧ W.cell? ⟨f, 4, none⟩ = some (.slice av' a.poi.length cv') ∧
   W.cell? ⟨fi, 0, none⟩ = some (.slice ai qs'.length ci) ∧ W.cell? ⟨fo, 0, none⟩ = some (Sv a.out.own)) := Hid.mk fun W k => by
  obtain ⟨-, x1, x2, x3, x4⟩ := (h.kept0 k).cells
  obtain ⟨-, y1, y2, y3, y4⟩ := (h'.kept0 k).cells
  exact ⟨x1, x2, x3, x4, y1, y2, y3, y4, cell_of_one (h'.kept0 k).i.box, (cells3 (h'.kept0 k).o.box).1⟩
 have kd := (Kept.refl [] w).drew
 have S0 := HS.out _ kd
 have HK0 := Hid.mk kd
 have HC15 := Hid.mk (key15 (HP0.out.kept0 kd))
 have HC38a : Hid (∀ W, Kept [] w W → Calls Tryz.prog 45 #[.slice av a.poi.length cv, .slice av' a.poi.length cv'] W fun e w' => e = .returned (.bool true) ∧ Kept [] W w') := Hid.mk fun W k => by
  have := sameAll24 (h.kept0 k).row (h.kept0 k).vals (h'.kept0 k).row (h'.kept0 k).vals (by omega) (fun q hq => harg q.x (by rw [← h.pm]; exact List.mem_map.2 ⟨q, hq, rfl⟩))
  rwa [decide_eq_true (h.pm.trans h'.pm.symm)] at this
 have HC39 : Hid (∀ W, Kept [] w W → Calls Tryz.prog 46 #[Ptr pi] W fun e w' => ∃ v, e = .returned v ∧ ∃ q, q.map (·.x) = qs.map (·.x) ∧ OwnL W w' v q ∧ Kept [] W w') := Hid.mk fun W k => all24 (h.kept0 k).i
 have HC38b : Hid (∀ W W0 q v, Kept [] w W → OwnL W0 W v q → q.map (·.x) = qs.map (·.x) → Calls Tryz.prog 45 #[v, .slice ai qs'.length ci] W fun e w' => e = .returned (.bool true) ∧ Kept [] W w') := Hid.mk fun W W0 q v k ho hm => by
  obtain ⟨a', c', rfl, -, -⟩ := ho.row.form
  have hql : q.length = a.inb.length := by rw [← h.ql]; simpa using congrArg List.length hm
  have hi8 := hg.i8
  have := sameAll24 ho.row ho.vals (h'.kept0 k).i.own.row (h'.kept0 k).i.own.vals (by omega) (fun y hy => hargi y.x (by rw [← h.iq, ← hm]; exact List.mem_map.2 ⟨y, hy, rfl⟩))
  rwa [decide_eq_true (hm.trans (h.iq.trans h'.iq.symm))] at this
 clear h h' kd
 go_enter Tryz.func15, Tryz.ntmps15
 go_wp2_with fail
 go_region_held3 (fun W => W.cell? ⟨p, 1, none⟩ = some (Ptr pi) ∧ W.cell? ⟨p, 2, none⟩ = some (Ptr po) ∧ W.cell? ⟨p, 3, none⟩ = some (Iv a.tries) ∧ W.cell? ⟨p, 4, none⟩ = some (.slice av a.poi.length cv) ∧
   W.cell? ⟨f, 1, none⟩ = some (Ptr fi) ∧ W.cell? ⟨f, 2, none⟩ = some (Ptr fo) ∧ W.cell? ⟨f, 3, none⟩ = some (Iv a.tries) ∧ W.cell? ⟨f, 4, none⟩ = some (.slice av' a.poi.length cv') ∧
   W.cell? ⟨fi, 0, none⟩ = some (.slice ai qs'.length ci) ∧ W.cell? ⟨fo, 0, none⟩ = some (Sv a.out.own)) (first | with_reducible exact S0 | with_reducible exact HS.out _ HK4.out | with_reducible exact HS.out _ HK3.out | with_reducible exact HS.out _ HK2.out | with_reducible exact HS.out _ HK1.out) (first
  | (go_at_call 45; refine (HC38b.out _ _ _ _ HK3.out HO3.out HM3.out).mono ?_; rintro e w4 ⟨rfl, k4⟩; have HK4 := Hid.mk (HK3.out.trans k4 (by simp)); clear k4)
  | (go_at_call 46; refine (HC39.out _ HK2.out).mono ?_; rintro e w3 ⟨v3, rfl, q3, hm3, ho3, k3⟩; obtain ⟨a3, c3, rfl, -, -⟩ := ho3.row.form; have HO3 := Hid.mk ho3; have HM3 := Hid.mk hm3; have HK3 := Hid.mk (HK2.out.trans k3 (by simp)); clear k3 ho3 hm3)
  | (go_at_call 45; refine (HC38a.out _ HK1.out).mono ?_; rintro e w2 ⟨rfl, k2⟩; have HK2 := Hid.mk (HK1.out.trans k2 (by simp)); clear k2)
  | (go_at_call 44; refine HC15.out.mono ?_; rintro e w1 ⟨rfl, k1⟩; have HK1 := Hid.mk (HK0.out.trans k1 (by simp)); clear k1))
 clear HC15 HC38a HC38b HC39 S0 HO3 HM3 HK1 HK2 HK3
 have H40 := Hid.mk (all21 (HP.out.kept0 HK4.out).o (HP.out.g.out.fit HP.out.oy))
 obtain ⟨N, hN⟩ : ∃ N, Hid (a.out.L.length = N) := ⟨_, Hid.mk rfl⟩
 have hN32 : N ≤ 32 := by have := HP.out.g.out.ln; have := hN.out; omega
 go_wp2_with fail
 refine H40.out.mono ?_
 rintro e w5 ⟨v5, rfl, y5, hm5, hY5, k5⟩
 obtain ⟨a5, c5, rfl, hc5, hc5'⟩ := rowY_form hY5.row
 have hy5L : y5.map ot = a.out.L := hm5.trans HP.out.oy
 have hy5 : y5.length = N := by rw [← hN.out, ← hy5L, List.length_map]
 rw [hy5] at hY5 hc5 ⊢
 have HY5 : Hid (OwnY 130 w4 w5 (.slice a5 N c5) y5 ∧ y5.map ot = a.out.L ∧ y5.length = N) := Hid.mk ⟨hY5, hy5L, hy5⟩
 have HK5 := Hid.mk (HK4.out.trans k5 (by simp))
 clear hY5 hy5L hy5 hm5 k5 H40
 go_wp2_with fail
 go_loopw [70, 6] (fun i u wr => ∃ (k : Nat) (ad : Option Addr) (cp : Nat), i = .int .i64 (k : Int) ∧ k ≤ N ∧ u = .slice ad k cp ∧ Hid (OwnsR 131 5 wr (.slice ad k cp) (CY (y5.take k)) ∧ Fresh w5 (.slice ad k cp) ∧ Kept [] w5 wr)) (fun i _ _ => N - (intOf i).toNat)
 case atStart => exact ⟨0, none, 0, rfl, by omega, rfl, Hid.mk ⟨OwnsR.nil 131 5 w5, fresh_nil w5 0, Kept.refl [] w5⟩⟩
 case round =>
  obtain ⟨k, ad, cp, rfl, hk, rfl, H⟩ := hrel
  by_cases hlt : k < N
  ·obtain ⟨y, hy⟩ : ∃ y, y5[k]? = some y := ⟨_, List.getElem?_eq_getElem (by have := HY5.out.2.2; omega)⟩
   obtain ⟨h1, h2, h3⟩ := H.out
   obtain ⟨b, o, rfl, -⟩ := rowY_at HY5.out.1.row hy
   have HSy : Hid (∀ W, Kept [] w5 W → W.cell? ⟨b, o + k * 5, none⟩ = some (Sv y.to) ∧ W.cell? ⟨b, o + k * 5 + 1, none⟩ = some (Sv y.q.x.fr) ∧ W.cell? ⟨b, o + k * 5 + 2, none⟩ = some (.int .u64 (y.q.x.ser : Int)) ∧ W.cell? ⟨b, o + k * 5 + 3, none⟩ = some (.int .i64 y.q.x.kind) ∧ W.cell? ⟨b, o + k * 5 + 4, none⟩ = some y.q.sl) := Hid.mk fun W kW => by
    obtain ⟨b', o', e, x0, x1, x2, x3, x4⟩ := rowY_at (HY5.out.1.row.kept kW (by simp)) hy
    injection e with e
    injection e with e1 e2
    subst e1 e2
    exact ⟨x0, x1, x2, x3, x4⟩
   have hd3 : Kept [] w5 wr.drew := h3.drew
   obtain ⟨ad2, c2, w2, hrun, hO2, k2, hN2⟩ := append_rowR rt71 (h1.kept (Kept.refl [] wr).drew (by simp)) (cellsY y) rfl (fun u hu => by simp [cellsY] at hu; rcases hu with rfl | rfl | rfl | rfl | rfl <;> rfl) (by rw [CY_length, List.length_take]; omega) 131 (0, 0) 121
   have htk : (CY (y5.take k)).length = k := by rw [CY_length, List.length_take]; have := HY5.out.2.2; omega
   rw [htk] at hrun hO2 hN2
   have hrun' : (Builtin.append_ #[121, 121] 121 #[.slice ad k cp, .slice (some ⟨wr.drew.heap.size, 0, none⟩) 1 1]).run Tryz.prog (wr.drew.alloc (.cells #[Sv y.to, Sv y.q.x.fr, .int .u64 (y.q.x.ser : Int), .int .i64 y.q.x.kind, y.q.sl] 131)) = .ok (.slice ad2 (k + 1) c2) w2 := hrun
   have kk2 : Kept [] w5 w2 := hd3.trans k2 (fun x hx => .inr (h2 x (by rw [Option.mem_toList] at hx; exact hx)))
   have H2 : Hid (OwnsR 131 5 w2 (.slice ad2 (k + 1) c2) (CY (y5.take (k + 1))) ∧ Fresh w5 (.slice ad2 (k + 1) c2) ∧ Kept [] w5 w2) := Hid.mk (by
    refine ⟨?_, fun g hg => ?_, kk2⟩
    ·rw [List.take_add_one, hy, CY_append]
     exact hO2
    ·rcases hN2 g hg with h | h
     ·exact h2 g h
     ·have := h3.size
      have h : wr.heap.size ≤ g := h
      omega)
   have S0 := HSy.out _ hd3
   have S1 := HSy.out _ (hd3.alloc (.cells #[Sv y.to, Sv y.q.x.fr, .int .u64 (y.q.x.ser : Int), .int .i64 y.q.x.kind, y.q.sl] 131))
   have S2 := HSy.out _ kk2
   have hkI : (k : Int) < (N : Int) := by omega
   clear hy h1 h2 h3 H hO2 k2 hN2 hrun kk2 hd3 htk
   go_wp2_with fail
   go_region_held3 (fun W => W.cell? ⟨b, o + k * 5, none⟩ = some (Sv y.to) ∧ W.cell? ⟨b, o + k * 5 + 1, none⟩ = some (Sv y.q.x.fr) ∧ W.cell? ⟨b, o + k * 5 + 2, none⟩ = some (.int .u64 (y.q.x.ser : Int)) ∧ W.cell? ⟨b, o + k * 5 + 3, none⟩ = some (.int .i64 y.q.x.kind) ∧ W.cell? ⟨b, o + k * 5 + 4, none⟩ = some y.q.sl) (first | with_reducible exact S0 | with_reducible exact S2 | exact S1) (first | (refine step_append_run 121 (.tmp 73) (.tmp 85) (by rfl) (by rfl) _ _ (by rfl) (by rfl) hrun' ?_))
   clear S0 S1 S2 HSy hrun'
   go_wp2_with fail
   go_roundw
   case rel => exact ⟨k + 1, ad2, c2, by go_num, by omega, rfl, H2⟩
   case measure => simp [intOf]; omega
  ·obtain rfl : k = N := by omega
   have hkI : ((k : Int) < (k : Int)) = False := eq_false (by omega)
   have HU : Hid (OwnsR 131 5 wr (.slice ad k cp) (CY y5) ∧ Kept [] w5 wr) := Hid.mk (by
    obtain ⟨h1, h2, h3⟩ := H.out
    rw [List.take_of_length_le (by rw [HY5.out.2.2]; exact Nat.le_refl _)] at h1
    exact ⟨h1, h3⟩)
   have HKr := Hid.mk (HK5.out.trans HU.out.2 (by simp))
   have hf9 := HF.out.kept0 HKr.out
   have H57 := Hid.mk (keys57 (cells3 hf9.o.box).2.2 hf9.o.krow (by have := hf9.g.out.kn; omega))
   obtain ⟨-, -, -, -, -, q2, -⟩ := HS.out _ HKr.out
   obtain ⟨M, hM⟩ : ∃ M, Hid (a.out.K.length = M) := ⟨_, Hid.mk rfl⟩
   have hM64 : M ≤ 64 := by have := hf9.g.out.kn; have := hM.out; omega
   clear H hf9
   go_wp2_with fail
   refine H57.out.mono ?_
   rintro e w6 ⟨v6, rfl, hK6, k6⟩
   obtain ⟨a6, c6, rfl, hc6, hc6'⟩ := hK6.form
   have hKl : (CT (keysL a.out.K)).length = M := by rw [← hM.out]; simp [CT, keysL]
   rw [hKl] at hc6 ⊢
   have HK6 : Hid (OwnsR 9 1 w6 (.slice a6 M c6) (CT (keysL a.out.K))) := Hid.mk (by rw [← hKl]; rw [hKl]; have h := hK6; rw [hKl] at h; exact h)
   have HKw6 := Hid.mk (HKr.out.trans k6 (by simp))
   have HU6 := Hid.mk (HU.out.1.kept k6 (by simp))
   have HU56 := Hid.mk (HU.out.2.trans k6 (by simp))
   clear hK6 k6 H57 hKl q2
   go_wp2_with fail
   go_loopw [95] (fun i wr => ∃ j : Nat, i = .int .i64 (j : Int) ∧ j ≤ M ∧ Hid (Kept [] w6 wr)) (fun i _ => M - (intOf i).toNat)
   case atStart => exact ⟨0, rfl, by omega, Hid.mk (Kept.refl [] w6)⟩
   case round =>
    obtain ⟨j, rfl, hj, kk⟩ := hrel
    by_cases hlt : j < M
    ·obtain ⟨z, hz⟩ : ∃ z, a.out.K[j]? = some z := ⟨_, List.getElem?_eq_getElem (by have := hM.out; omega)⟩
     obtain ⟨b, o, rfl, -⟩ := rowT_at (HK6.out.reads (fun r hr => by
      obtain ⟨x, _, rfl⟩ := List.mem_map.1 hr
      exact ⟨rfl, fun v hv => by simp at hv; subst hv; rfl⟩)) (keys_at hz)
     have HSk : Hid (∀ W, Kept [] w6 W → W.cell? ⟨p, 2, none⟩ = some (Ptr po) ∧ W.cell? ⟨f, 2, none⟩ = some (Ptr fo) ∧ W.cell? ⟨b, o + j, none⟩ = some (Sv z.k)) := Hid.mk fun W kW => by
      obtain ⟨b', o', e, x0⟩ := rowT_at ((HK6.out.kept kW (by simp)).reads (fun r hr => by
       obtain ⟨x, _, rfl⟩ := List.mem_map.1 hr
       exact ⟨rfl, fun v hv => by simp at hv; subst hv; rfl⟩)) (keys_at hz)
      injection e with e
      injection e with e1 e2
      subst e1 e2
      obtain ⟨-, y2, -, -, -, y6, -⟩ := HS.out _ (HKw6.out.trans kW (by simp))
      exact ⟨y2, y6, x0⟩
     have S0 := HSk.out _ kk.out.drew
     have HC42 := Hid.mk (serial22 (HP.out.kept0 (HKw6.out.trans kk.out.drew (by simp))).o HP.out.g.out.rise z.k)
     have HC43 : Hid (∀ W, Kept [] w6 W → Calls Tryz.prog 50 #[Ptr fo, Sv z.k] W fun e w' => e = .returned (Uv (ser a.out.K z.k)) ∧ Kept [] W w') := Hid.mk fun W kW => by
      have hW := HF.out.kept0 (HKw6.out.trans kW (by simp))
      exact serial33 (cells3 hW.o.box).2.2 hW.o.krow z.k (by have := hW.g.out.kn; omega)
     have hjI : (j : Int) < (M : Int) := by omega
     clear hz
     go_wp2_with fail
     go_region_held3 (fun W => W.cell? ⟨p, 2, none⟩ = some (Ptr po) ∧ W.cell? ⟨f, 2, none⟩ = some (Ptr fo) ∧ W.cell? ⟨b, o + j, none⟩ = some (Sv z.k)) (first | with_reducible exact S0 | with_reducible exact HSk.out _ HKb.out | with_reducible exact HSk.out _ HKa.out) (first
      | (go_at_call 50; refine (HC43.out _ HKa.out).mono ?_; rintro e wb ⟨rfl, kb⟩; have HKb := Hid.mk (HKa.out.trans kb (by simp)); clear kb)
      | (go_at_call 49; refine HC42.out.mono ?_; rintro e wa ⟨rfl, ka⟩; have HKa := Hid.mk (kk.out.drew.trans ka (by simp)); clear ka))
     clear S0 HC42 HC43 HSk kk
     go_wp2_with fail
     go_roundw
     case rel => exact ⟨j + 1, by go_num, by omega, HKb⟩
     case measure => simp [intOf]; omega
    ·obtain rfl : j = M := by omega
     have hjI : ((j : Int) < (j : Int)) = False := eq_false (by omega)
     have HKw := Hid.mk (HKw6.out.trans kk.out (by simp))
     have HUw := Hid.mk (HU6.out.kept kk.out (by simp))
     have HU5w := Hid.mk ((HU56.out.trans kk.out (by simp)).drew)
     clear HU HU6 HU56 HK6 kk HKw6 HKr HK5 HK4
     have hs8 : (stJ a.j).length = 8 := by unfold stJ; rw [doA_length]; exact HF.out.j.b8
     obtain ⟨a0, a1, a2, a3, a4, a5', a6', a7, hA⟩ := eight hs8
     obtain ⟨b0, b1, b2, b3, b4, b5, b6, b7, hB⟩ := eight HF.out.j.b8
     have hr := HP.out.g.j.reg
     have H45 : Hid (∀ W, Kept [] w W → Calls Tryz.prog 23 #[Ptr pj] W fun e w' => e = .returned (.agg #[Iv a0, Iv a1, Iv a2, Iv a3, Iv a4, Iv a5', Iv a6', Iv a7]) ∧ Kept [] W w') := Hid.mk fun W k => (state18 (HP.out.kept0 k).j hr).mono fun e w' h => ⟨by rw [h.1, hA]; rfl, h.2⟩
     have H46 : Hid (∀ W, Kept [] w W → Calls Tryz.prog 40 #[Ptr fj] W fun e w' => e = .returned (.agg #[Iv a0, Iv a1, Iv a2, Iv a3, Iv a4, Iv a5', Iv a6', Iv a7]) ∧ Kept [] W w') := Hid.mk fun W k => (rstate30 (HF.out.kept0 k).j hr (by have := HP.out.g.j.e16; omega)).mono fun e w' h => ⟨by rw [h.1, hA]; rfl, h.2⟩
     have H48 : Hid (∀ W, Kept [] w W → Calls Tryz.prog 53 #[Ptr pj] W fun e w' => e = .returned (.agg #[Iv b0, Iv b1, Iv b2, Iv b3, Iv b4, Iv b5, Iv b6, Iv b7]) ∧ Kept [] W w') := Hid.mk fun W k => (base25 (HP.out.kept0 k).j.isP).mono fun e w' h => ⟨by rw [h.1, hB]; rfl, h.2⟩
     have H47 : Hid (∀ W, Kept [] w W → Calls Tryz.prog 52 #[Ptr pj] W fun e w' => e = .returned (Uv a.j.ver) ∧ Kept [] W w') := Hid.mk fun W k => (version19 (HP.out.kept0 k).j.isP).mono fun e w' h => ⟨h.1, by rw [← h.2]; exact Kept.refl [] _⟩
     have H14 : Hid (∀ W, Kept [] w W → Calls Tryz.prog 54 #[Ptr p] W fun e w' => e = .returned (.bool (freshA a)) ∧ Kept [] W w') := Hid.mk fun W k => fresh14 (HP0.out.kept0 k)
     have H49 : Hid (∀ W, Kept [] w W → Calls Tryz.prog 55 #[Ptr f] W fun e w' => e = .returned (.bool (freshA a)) ∧ Kept [] W w') := Hid.mk fun W k => rfresh49 (HF0.out.kept0 k)
     have HS17 : Hid (∀ W, Kept [] w W → W.cell? ⟨p, 0, none⟩ = some (Ptr pj) ∧ W.cell? ⟨f, 0, none⟩ = some (Ptr fj) ∧ W.cell? ⟨f, 2, none⟩ = some (Ptr fo) ∧ W.cell? ⟨fo, 1, none⟩ = some (.slice ao k co) ∧ W.cell? ⟨fj, 9, none⟩ = some (Uv a.j.ver) ∧ W.cell? ⟨fj, 0, none⟩ = some (Iv b0) ∧ W.cell? ⟨fj, 1, none⟩ = some (Iv b1) ∧ W.cell? ⟨fj, 2, none⟩ = some (Iv b2) ∧ W.cell? ⟨fj, 3, none⟩ = some (Iv b3) ∧ W.cell? ⟨fj, 4, none⟩ = some (Iv b4) ∧ W.cell? ⟨fj, 5, none⟩ = some (Iv b5) ∧ W.cell? ⟨fj, 6, none⟩ = some (Iv b6) ∧ W.cell? ⟨fj, 7, none⟩ = some (Iv b7)) := Hid.mk fun W kW => by
      have x0 := (HP.out.kept0 kW).cells.1
      have hW := HF.out.kept0 kW
      obtain ⟨y0, -, y2, -⟩ := hW.cells
      have c1 := (cells3 hW.o.box).2.1
      rw [hW.yl, hN.out] at c1
      have hc8 : Cells8 W fj b0 b1 b2 b3 b4 b5 b6 b7 := cells8 hB fun i x hx => hW.j.cellA hx
      exact ⟨x0, y0, y2, c1, hW.j.ver, hc8⟩
     have kd := HKw.out.drew
     have S0 := HS17.out _ kd
     have hrow' : ReadsR 5 wr.drew (.slice ao k co) (CY ys') := by
      have h9 := (HF.out.kept0 kd).o.ys.row
      have e9 : ys'.length = k := by rw [HF.out.yl]; exact hN.out
      have h10 : ReadsR 5 wr.drew (.slice ao a.out.L.length co) (CY ys') := by rw [← HF.out.yl]; exact h9
      rw [hN.out] at h10
      exact h10
     have H44 := Hid.mk (sameOuts44 (w := wr.drew) (l := y5) (m := ys') (a := ad) (n := k) (c := cp) (a' := ao) (c' := co) ((HUw.out.kept (Kept.refl [] wr).drew (by simp)).reads (CY_wide _)) hrow' (fun y hy => ((HY5.out.1.args y hy).kept HU5w.out (by simp)).reads) (fun y hy => ((HF.out.kept0 kd).o.ys.args y hy).reads) (by rw [HY5.out.2.1]; exact HF.out.oy.symm) HY5.out.2.2.symm (by omega) (fun y hy => by
      have hm : ot y ∈ a.out.L := by rw [← HY5.out.2.1]; exact List.mem_map.2 ⟨y, hy, rfl⟩
      have h2 := formed_le (HP.out.g.out.lets _ hm).2.1
      have h3 : y.q.x.args.length ≤ 4 := h2.2
      omega))
     clear hrow'
     have HKd := Hid.mk kd
     have heq := equal29 a0 a1 a2 a3 a4 a5' a6' a7
     have heq2 := equal29 b0 b1 b2 b3 b4 b5 b6 b7
     clear kd hs8 hA hB hr
     go_wp2_with fail
     go_region_held3 (fun W => W.cell? ⟨p, 0, none⟩ = some (Ptr pj) ∧ W.cell? ⟨f, 0, none⟩ = some (Ptr fj) ∧ W.cell? ⟨f, 2, none⟩ = some (Ptr fo) ∧ W.cell? ⟨fo, 1, none⟩ = some (.slice ao k co) ∧ W.cell? ⟨fj, 9, none⟩ = some (Uv a.j.ver) ∧ W.cell? ⟨fj, 0, none⟩ = some (Iv b0) ∧ W.cell? ⟨fj, 1, none⟩ = some (Iv b1) ∧ W.cell? ⟨fj, 2, none⟩ = some (Iv b2) ∧ W.cell? ⟨fj, 3, none⟩ = some (Iv b3) ∧ W.cell? ⟨fj, 4, none⟩ = some (Iv b4) ∧ W.cell? ⟨fj, 5, none⟩ = some (Iv b5) ∧ W.cell? ⟨fj, 6, none⟩ = some (Iv b6) ∧ W.cell? ⟨fj, 7, none⟩ = some (Iv b7)) (first | with_reducible exact S0 | with_reducible exact HS17.out _ HK7.out | with_reducible exact HS17.out _ HK6.out | with_reducible exact HS17.out _ HK5.out | with_reducible exact HS17.out _ HK4.out | with_reducible exact HS17.out _ HK3.out | with_reducible exact HS17.out _ HK2.out | with_reducible exact HS17.out _ HK1.out) (first
      | (go_at_call 55; refine (H49.out _ HK6.out).mono ?_; rintro e z7 ⟨rfl, k7⟩; have HK7 := Hid.mk (HK6.out.trans k7 (by simp)); clear k7)
      | (go_at_call 54; refine (H14.out _ HK5.out).mono ?_; rintro e z6 ⟨rfl, k6⟩; have HK6 := Hid.mk (HK5.out.trans k6 (by simp)); clear k6)
      | (go_at_call 53; refine (H48.out _ HK4.out).mono ?_; rintro e z5 ⟨rfl, k5⟩; have HK5 := Hid.mk (HK4.out.trans k5 (by simp)); clear k5)
      | (go_at_call 52; refine (H47.out _ HK3.out).mono ?_; rintro e z4 ⟨rfl, k4⟩; have HK4 := Hid.mk (HK3.out.trans k4 (by simp)); clear k4)
      | (go_at_call 40; refine (H46.out _ HK2.out).mono ?_; rintro e z3 ⟨rfl, k3⟩; have HK3 := Hid.mk (HK2.out.trans k3 (by simp)); clear k3)
      | (go_at_call 23; refine (H45.out _ HK1.out).mono ?_; rintro e z2 ⟨rfl, k2⟩; have HK2 := Hid.mk (HK1.out.trans k2 (by simp)); clear k2)
      | (go_at_call 51; refine H44.out.mono ?_; rintro e z1 ⟨rfl, k1⟩; have HK1 := Hid.mk (HKd.out.trans k1 (by simp)); clear k1))
     clear S0 HS17 H44 H45 H46 H47 H48 H14 H49 heq heq2
     go_wp2_with fail
     go_ret
     exact ⟨rfl, HK7.out⟩
end
def cellsD1 : DataW Unit → List Value
 | .lit (.int k n) => [.int k n]
 | .lit (.string s) => [.string ⟨s.toArray⟩]
 | _ => []
def cellsD2 : DataW Unit → List Value
 | .agg ps => ps.flatMap cellsD1
 | _ => []
def cellsD3 : DataW Unit → List Value
 | .agg ps => ps.flatMap cellsD2
 | _ => []
def reCells (cs : List Value) : Obj → Obj
 | .cells _ t frozen => .cells cs.toArray t frozen
 | o => o
noncomputable def laidWorld (os : Os) : World :=
 let w0 := World.holding Tryz.prog os ⟨#[], #[], []⟩
 { w0 with heap := w0.heap.modify 0 (reCells (cellsD3 Rows.laid_reeve_code_operations)) }
theorem own : ownKnob Tryz.prog.godebug = none := by kernel_rfl
theorem laidOut : laidOutB Tryz.prog = true := by kernel_rfl
theorem laid_met (os : Os) (args : Array Value) : laidMet Tryz.prog [("reeve/code.operations", Rows.laid_reeve_code_operations)] ((laidWorld os).forCall (fun _ _ => 0) ⟨#[], args, []⟩).memory :=
 laidMet_of_run' 8 (by kernel_rfl) (by kernel_rfl)
theorem glob_ofH {W : World} (h : laidMetH Tryz.prog [("reeve/code.operations", Rows.laid_reeve_code_operations)] W) : Glob W := by
 have h0 : laidMet Tryz.prog [("reeve/code.operations", Rows.laid_reeve_code_operations)] W := by
  have e : ([("reeve/code.operations", Rows.laid_reeve_code_operations)].filter fun x : String × DataW Unit => x.2.handleName?.isSome) = [] := by kernel_rfl
  unfold laidMetH at h
  rw [e] at h
  exact h
 exact glob_of h0
end Go.Proofs.YtngnenbidpojeaaGreatDoor
namespace Go.Proofs.YtngnenbidpojeaaGreatDoor
set_option maxRecDepth 100000
open Go.ChangeShapes
theorem bulk_lits {H : Type} (k : IntKind) (zs : List Int) : Rows.uptoBulkAll (lits (H := H) k zs) = zs.length := by
 unfold lits
 induction zs with
 | nil => simp [Rows.uptoBulkAll]
 | cons z r ih =>
  simp only [List.map_cons, Rows.uptoBulkAll, Rows.uptoBulk, ih, List.length_cons]
  omega
theorem small_of {H : Type} {l : List (DataW H)} (hk : Rows.uptoSmall H l = true) : Rows.uptoBulkAll l ≤ 1048576 := of_decide_eq_true hk
end Go.Proofs.YtngnenbidpojeaaGreatDoor
