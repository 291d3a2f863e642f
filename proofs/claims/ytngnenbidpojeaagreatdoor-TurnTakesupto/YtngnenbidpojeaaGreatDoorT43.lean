import Derived.Test.YtngnenbidpojeaaGreatDoorT14
import Derived.Test.YtngnenbidpojeaaGreatDoorT25
import Derived.Test.YtngnenbidpojeaaGreatDoorT31
import Derived.Test.YtngnenbidpojeaaGreatDoorT32
import Derived.Test.YtngnenbidpojeaaGreatDoorT36
import Derived.Test.YtngnenbidpojeaaGreatDoorT41
import Derived.Test.YtngnenbidpojeaaGreatDoorT42
/-
 The document's turn: its first letter is run.
-/
namespace Go.Proofs.YtngnenbidpojeaaGreatDoor
set_option maxRecDepth 100000
open Go.RowKit
set_option linter.unusedVariables false
set_option maxHeartbeats 8000000 in
theorem rtake12_a {w0 w : World} {f fj fi fo B V : Nat} {a : Ac} {nv cv : Value} {pg : Pg} {now : Int} (h : AF w0 w f fj fi fo a) (hs0 : w0.heap.size ≤ w.heap.size) (hL : Lim a B V) (hB : B ≤ 1000000) (hV : V ≤ 1000000)
  (hP : IsP_N w nv cv pg) (hnm : ∀ s ∈ pg.names, s.length ≤ 9223372036854775807) (hO : OkP pg) (hn : I64 now) (hs : soundA a.tries a.inb.length a.poi = true) (hf : formedP pg = true) (hw : 0 ≤ now) {x : Lt} {t : List Lt} (hi : a.inb = x :: t) :
  Calls Tryz.prog 12 #[.agg #[nv, cv], Ptr f, .int .i64 now] w (TkF w0 w (takeA pg a now)) := by
 obtain ⟨na, nc, ca, cc, rfl, rfl, -, -⟩ := hP.form
 obtain ⟨W0, e0, k0, hz0, hb0, hb1⟩ := box2 w (.cells #[.slice na pg.names.length nc, .slice ca pg.code.length cc] 25) (.cells #[.bool false, .bool false, .int .i64 0, .int .i64 0, .slice none 0 0] 48)
 have HK := Hid.mk k0
 have HA := Hid.mk (h.kept0 k0)
 have HPg := Hid.mk (hP.keep k0)
 have HX := Hid.mk (And.intro hnm (And.intro hO hn))
 have HL := Hid.mk (And.intro hL (And.intro hB hV))
 have HLT : Hid (w0.heap.size ≤ w.heap.size ∧ W0.heap.size = w.heap.size + 2) := Hid.mk ⟨hs0, hz0⟩
 obtain ⟨v, hfa, hpo, hg⟩ := h.kept0 k0
 obtain ⟨av, cv, rfl⟩ := hpo.form
 obtain ⟨ui, qs, hI, hq⟩ := hfa.i
 obtain ⟨ai, ci, rfl, -, -⟩ := hI.own.row.form
 have hql : qs.length = a.inb.length := by rw [← hq, List.length_map]
 rw [hql] at hI
 have HFA := Hid.mk hfa
 have HII := Hid.mk hI
 have HS : Hid (∀ W, Kept [] W0 W → (W.cell? ⟨w.heap.size, 0, none⟩ = some (.slice na pg.names.length nc) ∧ W.cell? ⟨w.heap.size, 1, none⟩ = some (.slice ca pg.code.length cc)) ∧ W.cell? ⟨f, 1, none⟩ = some (Ptr fi) ∧ W.cell? ⟨f, 3, none⟩ = some (Iv a.tries) ∧ W.cell? ⟨f, 4, none⟩ = some (.slice av a.poi.length cv) ∧ W.cell? ⟨fi, 0, none⟩ = some (.slice ai a.inb.length ci)) := Hid.mk fun W k => by
  obtain ⟨d0, d1, d2, d3, d4⟩ := (HFA.out.kept0 k).cells
  exact ⟨cells2_N (k.keeps hb0 (by simp)), d1, d3, d4, cell_of_one (HII.out.kept0 k).box⟩
 have HC37 : Hid (∀ W, Kept [] W0 W → Calls Tryz.prog 37 #[Iv a.tries, .int .i64 (a.inb.length : Int), .slice av a.poi.length cv] W fun e w' => e = .returned (.bool (soundA a.tries a.inb.length a.poi)) ∧ Kept [] W w') := Hid.mk fun W k => by
  obtain ⟨ms, m1, m2, m3⟩ := (hpo.kept0 k).at
  have := sound29 a.tries a.inb.length m1
  rwa [m3] at this
 have HC19 : Hid (∀ W, Kept [] W0 W → Calls Tryz.prog 19 #[.agg #[.slice na pg.names.length nc, .slice ca pg.code.length cc]] W fun e w' => e = .returned (.bool (formedP pg)) ∧ Kept [] W w') := Hid.mk fun W k => formed14_N (HPg.out.keep k) hnm
 have HPB : Hid (W0.cell? ⟨w.heap.size, 0, none⟩ = some (.slice na pg.names.length nc) ∧ W0.cell? ⟨w.heap.size, 1, none⟩ = some (.slice ca pg.code.length cc)) := Hid.mk (cells2_N hb0)
 have HB1 : Hid (∀ W, Kept [] W0 W → W.heap[w.heap.size + 1]? = some (.cells #[.bool false, .bool false, .int .i64 0, .int .i64 0, .slice none 0 0] 48 (0, 0))) := Hid.mk fun W k => k.keeps hb1 (by simp)
 have HEND : Hid (∀ (Wx : World) (c : Int), Kept [] W0 Wx → ∃ W8, ((((Wx.setCell ⟨w.heap.size + 1, 0, none⟩ (.bool false)).setCell ⟨w.heap.size + 1, 1, none⟩ (.bool false)).setCell ⟨w.heap.size + 1, 2, none⟩ (.int .i64 0)).setCell ⟨w.heap.size + 1, 3, none⟩ (.int .i64 0)).setCell ⟨w.heap.size + 1, 4, none⟩ (.slice none 0 0) = W8 ∧ W8.heap[w.heap.size + 1]? = some (.cells #[.bool false, .bool false, .int .i64 0, .int .i64 0, .slice none 0 0] 48 (0, 0)) ∧
   TkF w0 w (a, ocN, c) (.returned (.tuple #[Ptr f, .agg #[.bool false, .bool false, .int .i64 0, .int .i64 0, .slice none 0 0], .int .i64 c])) W8) := Hid.mk fun Wx c k => by
  obtain ⟨W8, e8, k8, h8, -⟩ := put5 (HB1.out Wx k) (.bool false) (.bool false) (.int .i64 0) (.int .i64 0) (.slice none 0 0)
  refine ⟨W8, e8, h8, f, fj, fi, fo, _, rfl, isOc_nil _ _ _ _ 0, ?_, ((HK.out.trans k (by simp))).trans k8 (fun x hx => .inr (by simp at hx; omega))⟩
  obtain ⟨v, q1, q2, q3⟩ := HA.out.kept0 k
  have T2 := TT.one (HB1.out Wx k) (w0 := w0) (by have := HLT.out.1; omega) k8
  exact ⟨v, q1.turn T2 (by decide), q2.turn T2 (by decide) (by decide), q3⟩
 have HFIN : Hid (∀ (Wx : World) (tr : Ac × Oc × Int) (tv : Value) (f' fj' fi' fo' : Nat), Kept [] W0 Wx → IsOc W0.heap.size Wx (Oval tr.2.1 tv) tr.2.1 → AF w0 Wx f' fj' fi' fo' tr.1 → ∃ W8, ((((Wx.setCell ⟨w.heap.size + 1, 0, none⟩ (.bool tr.2.1.done)).setCell ⟨w.heap.size + 1, 1, none⟩ (.bool tr.2.1.poi)).setCell ⟨w.heap.size + 1, 2, none⟩ (.int .i64 tr.2.1.failed)).setCell ⟨w.heap.size + 1, 3, none⟩ (.int .i64 (tr.2.1.steps : Int))).setCell ⟨w.heap.size + 1, 4, none⟩ tv = W8 ∧ W8.heap[w.heap.size + 1]? = some (.cells #[.bool tr.2.1.done, .bool tr.2.1.poi, .int .i64 tr.2.1.failed, .int .i64 (tr.2.1.steps : Int), tv] 48 (0, 0)) ∧
   TkF w0 w tr (.returned (.tuple #[Ptr f', Oval tr.2.1 tv, .int .i64 tr.2.2])) W8) := Hid.mk fun Wx tr tv f' fj' fi' fo' k hoc hap => by
  obtain ⟨W8, e8, k8, h8, -⟩ := put5 (HB1.out Wx k) (.bool tr.2.1.done) (.bool tr.2.1.poi) (.int .i64 tr.2.1.failed) (.int .i64 (tr.2.1.steps : Int)) tv
  obtain ⟨tv', q1, q2, q3⟩ := hoc
  simp only [Oval, Value.agg.injEq] at q1
  have q1 : tv = tv' := by simpa using q1
  subst q1
  obtain ⟨v', r1, r2, r3⟩ := hap
  have T2 := TT.one (HB1.out Wx k) (w0 := w0) (by have := HLT.out.1; omega) k8
  refine ⟨W8, e8, h8, f', fj', fi', fo', _, rfl, ⟨_, rfl, q2.kept k8 (fun y hy hm => by have := q3 y hy; have := HLT.out.2; simp at hm; omega), fun y hy => by have := q3 y hy; have := HLT.out.2; omega⟩, ⟨v', r1.turn T2 (by decide), r2.turn T2 (by decide) (by decide), r3⟩, ?_⟩
  exact (HK.out.trans k (by simp)).trans k8 (fun x hx => .inr (by simp at hx; omega))
 have S0 := HS.out _ (Kept.refl _ _).drew
 have KD : Hid (Kept [] W0 W0.drew) := Hid.mk (Kept.refl [] W0).drew
 clear h hP hnm hO hn hL hB hV k0 hb0 hb1 hz0 hs0 hfa hpo hg hI hq
 clear hql
 have hT : takeA pg a now = takeR a x t (resI pg (stJ a.j) x now).1 (resI pg (stJ a.j) x now).2 := by
  unfold takeA
  rw [if_pos ⟨hs, hf, hw⟩, hi]
 have HTR : Hid (∀ R : Rsl, takeR a x t R 0 = match sendL a.out R.sent with
  | none => (a, ocN, 8)
  | some o => (⟨addR a.j (R.ev.map ofE), t, o, 0, a.poi⟩, ⟨true, false, 0, R.k, R.tm⟩, 0)) := Hid.mk fun R => by unfold takeR; rw [if_pos rfl]; cases sendL a.out R.sent <;> rfl
 have HTE : Hid (∀ (R : Rsl) (e : Int), e ≠ 0 → takeR a x t R e = if a.tries + 1 < 3 then (⟨a.j, a.inb, a.out, a.tries + 1, a.poi⟩, ⟨false, false, e, R.k, []⟩, 0) else if a.poi.length = 8 then (a, ocN, 8) else (⟨a.j, t, a.out, 0, a.poi ++ [x]⟩, ⟨false, true, e, R.k, []⟩, 0)) := Hid.mk fun R e he => by unfold takeR; rw [if_neg he]
 have hsd := (soundA_iff _ _ _).1 hs
 have HSD := Hid.mk hsd
 rw [hs] at HC37
 rw [hf] at HC19
 have HT := Hid.mk hT
 have HIN := Hid.mk hi
 have hlI : ((a.inb.length : Int) == 0) = false := by rw [hi, List.length_cons]; simp; omega
 have hwI : (now < 0) = False := eq_false (by omega)
 have HC38 : Hid (∀ W, Kept [] W0 W → Calls Tryz.prog 38 #[Ptr f] W (CpF W a)) := Hid.mk fun W k => copyA38F (HA.out.kept0 k) hsd.2.2.2.1 hsd.2.2.2.2
 clear hT hs hf hi hsd
 go_enter Tryz.func12, Tryz.ntmps12
 go_wp2_with fail
 go_region_held3 (fun W => (W.cell? ⟨w.heap.size, 0, none⟩ = some (.slice na pg.names.length nc) ∧ W.cell? ⟨w.heap.size, 1, none⟩ = some (.slice ca pg.code.length cc)) ∧ W.cell? ⟨f, 1, none⟩ = some (Ptr fi) ∧ W.cell? ⟨f, 3, none⟩ = some (Iv a.tries) ∧ W.cell? ⟨f, 4, none⟩ = some (.slice av a.poi.length cv) ∧ W.cell? ⟨fi, 0, none⟩ = some (.slice ai a.inb.length ci)) (first | with_reducible exact S0 | with_reducible exact HS.out _ K2.out | with_reducible exact HS.out _ K1.out) (first | (go_at_call 19; refine (HC19.out _ K1.out).mono ?_; rintro e w2 ⟨rfl, k2⟩; have K2 : Hid (Kept [] W0 w2) := Hid.mk (K1.out.then k2); clear k2) | (go_at_call 37; refine (HC37.out _ KD.out).mono ?_; rintro e w1 ⟨rfl, k1⟩; have K1 : Hid (Kept [] W0 w1) := Hid.mk (KD.out.then k1); clear k1))
 obtain ⟨-, y1, y3, y4, y0⟩ := HS.out w2 K2.out
 clear S0
 go_wp2_with fail
 refine (HC38.out _ K2.out).mono ?_
 rintro e w3 ⟨f', fj', fi', fo', rfl, hc, k3⟩
 have K3 : Hid (Kept [] w2 w3) := Hid.mk k3
 clear k3 y0 y1 y3 y4 HC38 HS HC37 HC19
 obtain ⟨vc, hfc, hpc, hgc, hfrc⟩ := hc
 have HFR := Hid.mk hfrc
 clear hfrc
 obtain ⟨u1, hJ, hfr1⟩ := hfc.j
 obtain ⟨u2, qs', hI', hq'⟩ := hfc.i
 rw [HIN.out] at hq'
 obtain ⟨q, qt, rfl⟩ : ∃ q qt, qs' = q :: qt := by
  match qs', hq' with
  | q :: qt, _ => exact ⟨q, qt, rfl⟩
 simp only [List.map_cons, List.cons.injEq] at hq'
 obtain ⟨hqx, hqt⟩ := hq'
 obtain ⟨qx, xad, xcap⟩ := q
 dsimp only at hqx
 replace hqx := hqx.symm
 subst hqx
 have HQT := Hid.mk hqt
 obtain ⟨ai', ci', rfl, -, -⟩ := hI'.own.row.form
 obtain ⟨b, o, rfl, d0, d1, d2, d3⟩ := hI'.own.row.at (j := 0) rfl
 have HQA : Hid (ReadsJ w3 (.slice xad x.args.length xcap) x.args) := Hid.mk (hI'.own.args ⟨x, xad, xcap⟩ (by simp)).reads
 have HFC := Hid.mk hfc
 have HPC := Hid.mk hpc
 have HGC := Hid.mk hgc
 have HJC := Hid.mk (And.intro hJ hfr1)
 have HIC := Hid.mk hI'
 have d0' : w3.cell? ⟨b, o, none⟩ = some (Sv x.fr) := by simpa using d0
 have d1' : w3.cell? ⟨b, o + 1, none⟩ = some (.int .u64 (x.ser : Int)) := by simpa using d1
 have d2' : w3.cell? ⟨b, o + 2, none⟩ = some (.int .i64 x.kind) := by simpa using d2
 have d3' : w3.cell? ⟨b, o + 3, none⟩ = some (.slice xad x.args.length xcap) := by simpa using d3
 have HD := Hid.mk (And.intro d0' (And.intro d1' (And.intro d2' d3')))
 clear d0 d1 d2 d3 d0' d1' d2' d3' hfc hpc hgc hJ hfr1 hI' hqt
 have K03 : Hid (Kept [] W0 w3) := Hid.mk (K2.out.then K3.out)
 obtain ⟨s0, s1, s2, s3, s4, s5, s6, s7, hst⟩ := eight_of HGC.out.j.st8
 have HSt : Hid (∀ W, Kept [] w3 W → Calls Tryz.prog 40 #[Ptr fj'] W fun e w' => e = .returned (.agg #[.int .i64 s0, .int .i64 s1, .int .i64 s2, .int .i64 s3, .int .i64 s4, .int .i64 s5, .int .i64 s6, .int .i64 s7]) ∧ Kept [] W w') := Hid.mk fun W k => by
  have := rstate30 (HJC.out.1.kept0 k) HGC.out.j.reg (by have := HGC.out.j.e16; omega)
  rwa [show (BI (stJ a.j)).toArray = #[.int .i64 s0, .int .i64 s1, .int .i64 s2, .int .i64 s3, .int .i64 s4, .int .i64 s5, .int .i64 s6, .int .i64 s7] by rw [hst]; rfl] at this
 have HRun : Hid (∀ W, Kept [] w3 W → Calls Tryz.prog 39 #[.agg #[.slice na pg.names.length nc, .slice ca pg.code.length cc], .agg #[.int .i64 s0, .int .i64 s1, .int .i64 s2, .int .i64 s3, .int .i64 s4, .int .i64 s5, .int .i64 s6, .int .i64 s7], .agg #[Sv x.fr, .int .u64 (x.ser : Int), .int .i64 x.kind, .slice xad x.args.length xcap], .int .i64 now] W fun e w' => ∃ xv, e = .returned (.tuple #[xv, .int .i64 (resI pg (stJ a.j) x now).2]) ∧ IsRt W.heap.size w' xv (resI pg (stJ a.j) x now).1 ∧ Kept [] W w') := Hid.mk fun W k => by
  have hx := HGC.out.inb x (by rw [HIN.out]; simp)
  have := run13T (nv := .slice na pg.names.length nc) (cv := .slice ca pg.code.length cc) (av := .slice xad x.args.length xcap) (p := pg) (l := x) (reg := stJ a.j) (now := now) (w := W) ⟨HPg.out.keep (K03.out.then k), HX.out.1, HX.out.2.1, HQA.out.kept k (by simp), hx.1, by have := formed_le hx.2; omega, HGC.out.j.st8, HGC.out.j.st64, HX.out.2.2⟩
  have e : (BI_N (stJ a.j)).toArray = #[.int .i64 s0, .int .i64 s1, .int .i64 s2, .int .i64 s3, .int .i64 s4, .int .i64 s5, .int .i64 s6, .int .i64 s7] := by rw [hst]; rfl
  rwa [e] at this
 have HFit : Hid (FitR (resI pg (stJ a.j) x now).1) := Hid.mk (resI_fit HX.out.2.1 (HGC.out.inb x (by rw [HIN.out]; simp)).1 HX.out.2.2 HGC.out.j.st64)
 have hPB0 : W0.cell? ⟨w.heap.size, 0, none⟩ = some (.slice na pg.names.length nc) ∧ W0.cell? ⟨w.heap.size, 1, none⟩ = some (.slice ca pg.code.length cc) := HPB.out
 have HS : Hid (∀ V, Kept [] w3 V → (V.cell? ⟨w.heap.size, 0, none⟩ = some (.slice na pg.names.length nc) ∧ V.cell? ⟨w.heap.size, 1, none⟩ = some (.slice ca pg.code.length cc)) ∧ V.cell? ⟨f', 0, none⟩ = some (Ptr fj') ∧ V.cell? ⟨f', 1, none⟩ = some (Ptr fi') ∧ V.cell? ⟨fi', 0, none⟩ = some (.slice (some ⟨b, o, none⟩) (qt.length + 1) ci') ∧ (V.cell? ⟨b, o, none⟩ = some (Sv x.fr) ∧ V.cell? ⟨b, o + 1, none⟩ = some (.int .u64 (x.ser : Int)) ∧ V.cell? ⟨b, o + 2, none⟩ = some (.int .i64 x.kind) ∧ V.cell? ⟨b, o + 3, none⟩ = some (.slice xad x.args.length xcap))) := Hid.mk fun V k => by
  obtain ⟨c0, c1, -, -, -⟩ := (HFC.out.kept0 k).cells
  exact ⟨⟨k.cell_eq (K03.out.cell_eq hPB0.1), k.cell_eq (K03.out.cell_eq hPB0.2)⟩, c0, c1, cell_of_one (HIC.out.kept0 k).box, k.cell_eq HD.out.1, k.cell_eq HD.out.2.1, k.cell_eq HD.out.2.2.1, k.cell_eq HD.out.2.2.2⟩
 have KD : Hid (Kept [] w3 w3.drew) := Hid.mk (Kept.refl [] w3).drew
 have KA := Hid.mk ((Kept.refl [] w3).alloc (.cells #[.int .i64 0, .int .i64 0, .int .i64 0, .int .i64 0, .int .i64 0, .int .i64 0, .int .i64 0, .int .i64 0, .slice none 0 0, .slice none 0 0, .slice none 0 0, .int .i64 0] 113)).drew
 have S0 := HS.out _ KD.out
 have S1 := HS.out _ KA.out
 clear hst hPB0
 generalize resI pg (stJ a.j) x now = R at *
 go_wp2_with fail
 go_cut [10, 11] (fun p1 p2 wc => ∃ g : Nat, p1 = .pointer (some ⟨g, 0, none⟩) ∧ p2 = .int .i64 R.2 ∧ Hid (ResY w3 wc g R.1))
 case first =>
  go_region_held3 (fun V => (V.cell? ⟨w.heap.size, 0, none⟩ = some (.slice na pg.names.length nc) ∧ V.cell? ⟨w.heap.size, 1, none⟩ = some (.slice ca pg.code.length cc)) ∧ V.cell? ⟨f', 0, none⟩ = some (Ptr fj') ∧ V.cell? ⟨f', 1, none⟩ = some (Ptr fi') ∧ V.cell? ⟨fi', 0, none⟩ = some (.slice (some ⟨b, o, none⟩) (qt.length + 1) ci') ∧ (V.cell? ⟨b, o, none⟩ = some (Sv x.fr) ∧ V.cell? ⟨b, o + 1, none⟩ = some (.int .u64 (x.ser : Int)) ∧ V.cell? ⟨b, o + 2, none⟩ = some (.int .i64 x.kind) ∧ V.cell? ⟨b, o + 3, none⟩ = some (.slice xad x.args.length xcap))) (first | with_reducible exact S0 | with_reducible exact S1 | with_reducible exact S5 | with_reducible exact S4 | with_reducible exact HS.out _ J6.out | with_reducible exact HS.out _ (J5.out.alloc _) | with_reducible exact HS.out _ (J4.out.alloc _)) (first | (go_at_call 39; first | ((revert hbA; intro hbA); (with_reducible refine (HRun.out _ J4.out).mono ?_); rintro e v5 ⟨xv, rfl, hR, k5⟩; have J5 := Hid.mk (J4.out.then k5); obtain ⟨X, rfl, hXl, hS5⟩ := resY_cells (g := 0) hR J5.out J4.out.size; obtain ⟨V5, hst, hX⟩ := hS5 w3.heap.size v5 (k5.keeps hbA (by simp)) (Nat.le_refl _) (.inl HLA.out) (.inl rfl); have HXr := Hid.mk hX; have J6 : Hid (Kept [] w3 V5) := hX.2.1; have S5 := HS.out v5 J5.out; clear hR k5 hX hS5) | ((with_reducible refine (HRun.out _ J4.out).mono ?_); rintro e v5 ⟨xv, rfl, hR, k5⟩; have J5 := Hid.mk (J4.out.then k5); obtain ⟨X, rfl, hXl, hS5⟩ := resY_cells (g := 0) hR J5.out J4.out.size; obtain ⟨V5, hst0, hX⟩ := hS5 v5.heap.size _ (heap_alloc_new v5 _) J5.out.size (.inr ⟨rfl, rfl⟩) (.inr rfl); have hst : (storeCells ⟨v5.heap.size, 0, none⟩ X).run Tryz.prog (v5.alloc (.cells #[.int .i64 0, .int .i64 0, .int .i64 0, .int .i64 0, .int .i64 0, .int .i64 0, .int .i64 0, .int .i64 0, .slice none 0 0, .slice none 0 0, .slice none 0 0, .int .i64 0] 113)) = .ok () V5 := hst0; have HXr := Hid.mk hX; have J6 : Hid (Kept [] w3 V5) := hX.2.1; have S5 := HS.out v5 J5.out; clear hR k5 hX hS5) | ((with_reducible refine (HRun.out _ (J4.out.alloc _)).mono ?_); rintro e v5 ⟨xv, rfl, hR, k5⟩; have J5 := Hid.mk ((J4.out.alloc _).then k5); obtain ⟨X, rfl, hXl, hS5⟩ := resY_cells (g := 0) hR J5.out (J4.out.alloc _).size; obtain ⟨V5, hst, hX⟩ := hS5 v4.heap.size v5 (k5.keeps (heap_alloc_new v4 (.cells #[.int .i64 0, .int .i64 0, .int .i64 0, .int .i64 0, .int .i64 0, .int .i64 0, .int .i64 0, .int .i64 0, .slice none 0 0, .slice none 0 0, .slice none 0 0, .int .i64 0] 113)) (by simp)) J4.out.size (.inl (by simp)) (.inl rfl); have HXr := Hid.mk hX; have J6 : Hid (Kept [] w3 V5) := hX.2.1; have S5 := HS.out v5 J5.out; clear hR k5 hX hS5)) | (go_at_call 40; first | ((with_reducible refine (HSt.out _ KD.out).mono ?_); rintro e v4 ⟨rfl, k4⟩; have J4 := Hid.mk (KD.out.then k4); have S4 := HS.out v4 J4.out; clear k4) | ((with_reducible refine (HSt.out _ KA.out).mono ?_); rintro e v4 ⟨rfl, k4⟩; have J4 := Hid.mk (KA.out.then k4); have S4 := HS.out v4 J4.out; have hbA := k4.keeps (heap_alloc_new w3 (.cells #[.int .i64 0, .int .i64 0, .int .i64 0, .int .i64 0, .int .i64 0, .int .i64 0, .int .i64 0, .int .i64 0, .slice none 0 0, .slice none 0 0, .slice none 0 0, .int .i64 0] 113)) (by simp); have HLA : Hid (w3.heap.size < v4.heap.size) := lt_of_block hbA; clear k4)))
  all_goals (go_wp2_with fail; go_meet; exact ⟨_, rfl, rfl, HXr⟩)
 case rest =>
 obtain ⟨g, ra, rb, HXr⟩ := hcut
 subst ra
 subst rb
 obtain ⟨⟨ev, sn, tm, hB, n1, n2, n3⟩, KX, hg⟩ := HXr.out
 obtain ⟨b0, b1, b2, b3, b4, b5, b6, b7, hreg⟩ := eight_of hB.r8
 obtain ⟨ea, ec, rfl, -, -⟩ := hB.ev.form
 obtain ⟨sa, sc, rfl, -, -⟩ := hB.sn.form
 obtain ⟨ta, tc, rfl, -, -⟩ := hB.tm.form
 rw [rowE_length, rowS_length, rowT_length] at *
 have KC : Hid (Kept [] w2 wc) := Hid.mk (K3.out.then KX)
 have FA1 := Hid.mk (HFC.out.kept0 KX)
 have MD1 : Hid (Md wc g R.1 (.slice sa R.1.sent.length sc) (.slice ta R.1.tm.length tc) (.slice ea R.1.ev.length ec) vc a.poi) := Hid.mk ⟨HPC.out.kept0 KX, hB.box, hB.sn, hB.tm⟩
 have J1 := Hid.mk (HJC.out.1.kept0 KX)
 have I1 := Hid.mk (HIC.out.kept0 KX)
 have EV1 := Hid.mk hB.ev
 have HNE := Hid.mk n1
 have HNT := Hid.mk n3
 have HU1 : Hid (∀ g', u1.ownBlock = some g' → g' < w3.heap.size) := Hid.mk HJC.out.1.own.ltB
 have HREG := Hid.mk hreg
 have HSZ : Hid (W0.heap.size ≤ w3.heap.size ∧ w0.heap.size ≤ w2.heap.size) := Hid.mk ⟨K03.out.size, by have := K2.out.size; have := HLT.out; omega⟩
 have hq8 : qt.length ≤ 8 := by have := HGC.out.i8; rw [HIN.out, List.length_cons, ← HQT.out, List.length_map] at this; omega
 have HQ8 := Hid.mk hq8
 have hsd := HSD.out
 clear hB n1 n2 n3 KX hg hreg HXr HRun HSt HS S0 S1 KD KA hq8
 by_cases hr : R.2 = 0
 ·rw [hr]
  have hT := HT.out
  rw [hr, HTR.out R.1] at hT
  have HT2 := Hid.mk hT
  have HC41 := Hid.mk (rpop14_new I1.out HQ8.out KC.out.size)
  obtain ⟨-, c1, -, -, -⟩ := FA1.out.cells
  clear hT hsd HTE hr
  go_wp2_with fail
  refine HC41.out.mono ?_
  rintro e w5 ⟨rfl, v5, hI5, -, k5, -⟩
  have hT5 := TT.one (w0 := w2) I1.out.box I1.out.fr k5
  have FA5 := Hid.mk (FA1.out.putI hI5 k5)
  have MD5 := Hid.mk (MD1.out.turn hT5 (by decide))
  have J5 := Hid.mk (hT5.isFJ J1.out (by decide) (by decide))
  have EV5 := Hid.mk (EV1.out.tt hT5 (by decide))
  have K5 : Hid (Kept [] w2 w5) := Hid.mk (hT5.kept0 KC.out)
  clear hI5 k5 HC41 hT5 c1 I1 FA1 MD1 J1 EV1
  have z3 := FA5.out.free 3
  have c3 := FA5.out.cells.2.2.2.1
  have T6 : TT [61] w2 w5 (w5.setCell ⟨f', 3, none⟩ (Value.int .i64 0)) := TT.set (i := 3) FA5.out.box FA5.out.hf (Iv 0)
  have FA6 : Hid (FA w2 (w5.setCell ⟨f', 3, none⟩ (Value.int .i64 0)) f' fj' fi' fo' 0 vc _) := Hid.mk (FA5.out.set3 0)
  have MD6 := Hid.mk (MD5.out.turn T6 (by decide))
  have J6 := Hid.mk (T6.isFJ J5.out (by decide) (by decide))
  have EV6 := Hid.mk (EV5.out.tt T6 (by decide))
  have K6 : Hid (Kept [] w2 (w5.setCell ⟨f', 3, none⟩ (Value.int .i64 0))) := Hid.mk (T6.kept0 K5.out)
  clear T6 FA5 MD5 J5 EV5 K5
  go_wp2_with fail
  generalize w5.setCell ⟨f', 3, none⟩ (Value.int .i64 0) = w6 at *
  clear z3 c3
  have FA6d := Hid.mk (FA6.out.kept0 (Kept.refl [] w6).drew)
  have MD6d := Hid.mk (MD6.out.kept0 (Kept.refl [] w6).drew)
  have J6d := Hid.mk (J6.out.kept0 (Kept.refl [] w6).drew)
  have EV6d := Hid.mk (EV6.out.kept (Kept.refl [] w6).drew (by simp))
  have K6d : Hid (Kept [] w2 w6.drew) := Hid.mk K6.out.drew
  have S6 : w6.drew.cell? ⟨f', 0, none⟩ = some (Ptr fj') ∧ w6.drew.cell? ⟨g, 8, none⟩ = some (.slice ea R.1.ev.length ec) := ⟨FA6d.out.cells.1, (MD6d.out.cells HREG.out).1⟩
  have HC29 := Hid.mk (radd14 (x := .slice ea R.1.ev.length ec) (l := R.1.ev.map ofE) J6d.out HGC.out.j.reg HGC.out.j.e16 (fun W kW => by
   rw [CE_of]
   refine (EV6d.out.reads (wideE _)).kept kW (fun g' hg' hm => ?_)
   rcases mem_foot.1 hm with h | h
   ·subst h; exact ownsR_ne EV6d.out J6d.out.box (by decide) hg'
   ·have := HU1.out _ h; have := HNE.out _ hg'; omega) (by rw [List.length_map]; have := HFit.out.ev; omega) (by rw [List.length_map]; have := HFit.out.ev; have := HL.out.1.ver; have := HL.out.2.2; omega))
  go_region_held3 (fun V => V.cell? ⟨f', 0, none⟩ = some (Ptr fj') ∧ V.cell? ⟨g, 8, none⟩ = some (.slice ea R.1.ev.length ec)) (first | with_reducible exact S6 | with_reducible exact ⟨FA7.out.1.cells.1, (MD7.out.cells HREG.out).1⟩) (first | (go_at_call 29; refine HC29.out.mono ?_; rintro e w7 ⟨rfl, hJ7⟩; have FA7 := Hid.mk (FA6d.out.putJ J6d.out HJC.out.2 K6d.out.size hJ7); have MD7 := Hid.mk (MD6d.out.turn FA7.out.2 (by decide)); have K7 : Hid (Kept [] w2 w7) := Hid.mk (FA7.out.2.kept0 K6d.out); clear hJ7))
  have FA8 : Hid (FA w2 w7 f' fj' fi' fo' 0 vc ⟨addR a.j (R.1.ev.map ofE), t, a.out, 0, a.poi⟩) := Hid.mk (FA7.out.1.as rfl HQT.out.symm rfl)
  obtain ⟨-, m9, -, -⟩ := MD7.out.cells HREG.out
  clear S6 HC29 FA7 FA6d MD6d J6d EV6d K6d FA6 MD6 J6 EV6 K6
  have HGQ : Hid (∀ k q, sendL a.out (R.1.sent.take k) = some q → GoodO q ∧ SerB q (B + 900)) := Hid.mk fun k q hq => by
   have hk : (R.1.sent.take k).length ≤ 4 := by rw [List.length_take]; have := HFit.out.sent; omega
   have := sendL_good (R.1.sent.take k) a.out q B HGC.out.out HL.out.1.ser (fun s hs => (HFit.out.snd s (List.mem_of_mem_take hs)).2) (by have := HL.out.2.1; omega) hq
   exact ⟨this.1, fun y hy => by have := this.2 y hy; omega⟩
  have hsn : R.1.sent.length ≤ 9223372036854775807 := by have := HFit.out.sent; omega
  go_wp2_with fail
  go_loopw [99] (fun i wr => ∃ (j : Nat) (q : Ob), i = .int .i64 (j : Int) ∧ j ≤ R.1.sent.length ∧ Hid (sendL a.out (R.1.sent.take j) = some q ∧ FA w2 wr f' fj' fi' fo' 0 vc ⟨addR a.j (R.1.ev.map ofE), t, q, 0, a.poi⟩ ∧ Md wr g R.1 (.slice sa R.1.sent.length sc) (.slice ta R.1.tm.length tc) (.slice ea R.1.ev.length ec) vc a.poi ∧ Kept [] w2 wr)) (fun i _ => R.1.sent.length - (intOf i).toNat)
  case atStart => exact ⟨0, a.out, rfl, by omega, Hid.mk ⟨rfl, FA8.out, MD7.out, K7.out⟩⟩
  case round =>
   obtain ⟨j, q, rfl, hj, H⟩ := hrel
   clear FA8 MD7 K7 m9
   by_cases hlt : j < R.1.sent.length
   ·obtain ⟨s, hs⟩ : ∃ s, R.1.sent[j]? = some s := ⟨_, List.getElem?_eq_getElem hlt⟩
    obtain ⟨hq, hfa, hmd, hk⟩ := H.out
    obtain ⟨g1, gb1⟩ := HGQ.out j q hq
    obtain ⟨b', o', rfl, d0, d1, d2⟩ := rowSn_at' (hmd.sn.reads (wideS _)) hs
    have hfs := HFit.out.snd s (List.mem_of_getElem? hs)
    have HCE : Hid (∀ V, FA w2 V f' fj' fi' fo' 0 vc ⟨addR a.j (R.1.ev.map ofE), t, q, 0, a.poi⟩ ∨ FA w2 V f' fj' fi' fo' 0 vc ⟨addR a.j (R.1.ev.map ofE), t, sendO q s.to s.kind [s.arg], 0, a.poi⟩ → Md V g R.1 (.slice (some ⟨b', o', none⟩) R.1.sent.length sc) (.slice ta R.1.tm.length tc) (.slice ea R.1.ev.length ec) vc a.poi → V.cell? ⟨f', 2, none⟩ = some (Ptr fo') ∧ V.cell? ⟨g, 9, none⟩ = some (.slice (some ⟨b', o', none⟩) R.1.sent.length sc) ∧ V.cell? ⟨b', o' + j * 3, none⟩ = some (.string ⟨s.to.toArray⟩) ∧ V.cell? ⟨b', o' + j * 3 + 1, none⟩ = some (.int .i64 s.kind) ∧ V.cell? ⟨b', o' + j * 3 + 2, none⟩ = some (.int .i64 s.arg)) := Hid.mk fun V h1 h2 => by
     obtain ⟨b2, o2, e2, q0, q1, q2⟩ := rowSn_at' (h2.sn.reads (wideS _)) hs
     injection e2 with e2
     injection e2 with e3 e4
     subst e3 e4
     refine ⟨?_, (h2.cells HREG.out).2.1, q0, q1, q2⟩
     rcases h1 with h1 | h1 <;> exact h1.cells.2.2.1
    have KDw : Hid (Kept [] wr wr.drew) := Hid.mk (Kept.refl [] wr).drew
    have KAw : Hid (Kept [] wr (wr.alloc (.cells #[.int .i64 s.arg] 2)).drew) := Hid.mk ((Kept.refl [] wr).alloc _).drew
    have HC27 := Hid.mk (sendG ((hfa.kept0 KAw.out)) g1 gb1 (by have := HL.out.2.1; omega) ((hk.then KAw.out).size) s.to (by omega) s.kind s.arg (some ⟨wr.heap.size, 0, none⟩) ((ownsJ_one wr s.arg).kept (Kept.refl [] _).drew (by simp)))
    have HMA := Hid.mk (hmd.kept0 KAw.out)
    have HKA := Hid.mk (hk.then KAw.out)
    have HSS : Hid (∀ c V, SndG w2 (wr.alloc (.cells #[.int .i64 s.arg] 2)).drew f' fj' fi' fo' 0 vc ⟨addR a.j (R.1.ev.map ofE), t, q, 0, a.poi⟩ s.to s.kind s.arg c V → (V.cell? ⟨f', 2, none⟩ = some (Ptr fo') ∧ V.cell? ⟨g, 9, none⟩ = some (.slice (some ⟨b', o', none⟩) R.1.sent.length sc) ∧ V.cell? ⟨b', o' + j * 3, none⟩ = some (.string ⟨s.to.toArray⟩) ∧ V.cell? ⟨b', o' + j * 3 + 1, none⟩ = some (.int .i64 s.kind) ∧ V.cell? ⟨b', o' + j * 3 + 2, none⟩ = some (.int .i64 s.arg)) ∧ Md V g R.1 (.slice (some ⟨b', o', none⟩) R.1.sent.length sc) (.slice ta R.1.tm.length tc) (.slice ea R.1.ev.length ec) vc a.poi ∧ Kept [] w2 V) := Hid.mk fun c V h => by
     rcases h with ⟨-, -, h1, h2⟩ | ⟨-, -, rfl⟩
     ·exact ⟨HCE.out V (.inr h1) (HMA.out.turn h2 (by decide)), HMA.out.turn h2 (by decide), h2.kept0 HKA.out⟩
     ·exact ⟨HCE.out _ (.inl (hfa.kept0 KAw.out)) HMA.out, HMA.out, HKA.out⟩
    have S0 := HCE.out _ (.inl (hfa.kept0 KDw.out)) (hmd.kept0 KDw.out)
    have S1 := HCE.out _ (.inl (hfa.kept0 KAw.out)) HMA.out
    have HSq := Hid.mk hq
    have HSt : Hid (R.1.sent.take (j + 1) = R.1.sent.take j ++ [s]) := Hid.mk (by rw [List.take_add_one, hs]; rfl)
    have hjI : (j : Int) < (R.1.sent.length : Int) := by omega
    have hjI0 : (0 : Int) ≤ (j : Int) := by omega
    have HLT2 := Hid.mk hlt
    clear hq hfa hmd hk g1 gb1 d0 d1 d2 hfs hs H HCE
    go_wp2_with fail
    go_region_held3 (fun V => V.cell? ⟨f', 2, none⟩ = some (Ptr fo') ∧ V.cell? ⟨g, 9, none⟩ = some (.slice (some ⟨b', o', none⟩) R.1.sent.length sc) ∧ V.cell? ⟨b', o' + j * 3, none⟩ = some (.string ⟨s.to.toArray⟩) ∧ V.cell? ⟨b', o' + j * 3 + 1, none⟩ = some (.int .i64 s.kind) ∧ V.cell? ⟨b', o' + j * 3 + 2, none⟩ = some (.int .i64 s.arg)) (first | with_reducible exact S0 | with_reducible exact S1 | with_reducible exact S2) (first | (go_at_call 27; refine HC27.out.mono ?_; rintro e w8 ⟨r8, c8, rfl, hs8⟩; have HS8 := Hid.mk hs8; have S2 := (HSS.out c8 w8 hs8).1; clear hs8))
    obtain ⟨-, MD8, K8⟩ := HSS.out c8 w8 HS8.out
    have HM8 := Hid.mk MD8
    have HK8 := Hid.mk K8
    clear S0 S1 S2 MD8 K8 HSS HC27
    by_cases hc8 : c8 = 0
    ·have H2 : Hid (sendL a.out (R.1.sent.take (j + 1)) = some (sendO q s.to s.kind [s.arg]) ∧ FA w2 w8 f' fj' fi' fo' 0 vc ⟨addR a.j (R.1.ev.map ofE), t, sendO q s.to s.kind [s.arg], 0, a.poi⟩ ∧ Md w8 g R.1 (.slice (some ⟨b', o', none⟩) R.1.sent.length sc) (.slice ta R.1.tm.length tc) (.slice ea R.1.ev.length ec) vc a.poi ∧ Kept [] w2 w8) := by
      rcases HS8.out with ⟨-, h1, h2, h3⟩ | ⟨h1, -, -⟩
      ·exact Hid.mk ⟨by rw [HSt.out, sendL_snoc, HSq.out, Option.bind_some, if_pos h1], h2, HM8.out, HK8.out⟩
      ·exact absurd hc8 h1
     subst hc8
     clear HS8
     go_wp2_with fail
     go_roundw
     case rel => exact ⟨j + 1, _, by go_num, by have := HLT2.out; omega, H2⟩
     case measure => (have := HLT2.out; simp [intOf]; omega)
    ·have H2 : Hid (sendL a.out R.1.sent = none) := by
      rcases HS8.out with ⟨h1, -, -, -⟩ | ⟨-, h1, -⟩
      ·exact absurd h1 hc8
      ·have e1 : sendL a.out (R.1.sent.take (j + 1)) = none := by rw [HSt.out, sendL_snoc, HSq.out, Option.bind_some, if_neg (by rw [h1]; simp)]
       have := sendL_none (R.1.sent.drop (j + 1)) _ _ e1
       rw [List.take_append_drop] at this
       exact Hid.mk this
     have hcI : (c8 != 0) = true := by simpa using hc8
     have hcE : (c8 == 0) = false := by simpa using hc8
     have K08 : Hid (Kept [] W0 w8) := Hid.mk (K2.out.then HK8.out)
     have hbx := HB1.out w8 K08.out
     obtain ⟨g0, g1, g2, g3, g4⟩ := free5 hbx
     obtain ⟨x0, x1, x2, x3, x4⟩ := cells5 hbx
     have hT2 := HT2.out
     rw [H2.out] at hT2
     have HT3 := Hid.mk hT2
     clear hbx HS8 hc8 hT2 HT2
     go_wp2_with fail
     obtain ⟨W8, e8, h8, hE⟩ := HEND.out w8 8 K08.out
     rw [e8]
     refine bodyPost_ret (results_tcu (t := 6) (p := 7) (u := 8) (ty := 48) rfl _ _ (w.heap.size + 1) 48 _ (0, 0) _ rfl h8 Tryz.underlying48 rfl (by kernel_rfl) _ _ rfl rfl) rfl ?_
     rw [HT3.out]
     exact hE
   ·obtain rfl : j = R.1.sent.length := by omega
    have hjI : ((R.1.sent.length : Int) < (R.1.sent.length : Int)) = False := eq_false (by omega)
    obtain ⟨hq, hfa, hmd, hk⟩ := H.out
    rw [List.take_length] at hq
    have hT2 := HT2.out
    rw [hq] at hT2
    have HT3 := Hid.mk hT2
    have K08 : Hid (Kept [] W0 wr.drew) := Hid.mk ((K2.out.then hk).drew)
    have hmd' := hmd.kept0 (Kept.refl [] wr).drew
    obtain ⟨-, -, m10, m11⟩ := hmd'.cells HREG.out
    have hbx := HB1.out wr (K2.out.then hk)
    obtain ⟨g0, g1, g2, g3, g4⟩ := free5 hbx
    obtain ⟨x0, x1, x2, x3, x4⟩ := cells5 hbx
    obtain ⟨-, -, n10, n11⟩ := hmd.cells HREG.out
    obtain ⟨gq, gbq⟩ := HGQ.out R.1.sent.length q (by rw [List.take_length]; exact hq)
    have HF9 := HFIN.out wr (⟨addR a.j (R.1.ev.map ofE), t, q, 0, a.poi⟩, ⟨true, false, 0, R.1.k, R.1.tm⟩, 0) (.slice ta R.1.tm.length tc) f' fj' fi' fo' (K2.out.then hk) ⟨_, rfl, hmd.tm.reads (wideT _), fun g' hg' => by have := HNT.out _ hg'; have := HSZ.out; omega⟩ (AF.elder ⟨vc, hfa, hmd.ps, ⟨HGC.out.j.addR (ofE_64 HFit.out.evs) (by rw [List.length_map]; have := HFit.out.ev; have := HL.out.1.ver; have := HL.out.2.2; omega), by have := HGC.out.i8; rw [HIN.out, List.length_cons] at this; show t.length ≤ 8; omega, fun y hy => HGC.out.inb y (by rw [HIN.out]; exact List.mem_cons_of_mem _ hy), gq, HGC.out.poi⟩⟩ HSZ.out.2)
    have HF9 := Hid.mk HF9
    clear hq hfa hmd hk hT2 HT2 hmd' hbx gq gbq H
    go_wp2_with fail
    go_region
    obtain ⟨W8, e8, h8, hE⟩ := HF9.out
    have e8 : ((((wr.setCell ⟨w.heap.size + 1, 0, none⟩ (.bool true)).setCell ⟨w.heap.size + 1, 1, none⟩ (.bool false)).setCell ⟨w.heap.size + 1, 2, none⟩ (.int .i64 0)).setCell ⟨w.heap.size + 1, 3, none⟩ (.int .i64 (R.1.k : Int))).setCell ⟨w.heap.size + 1, 4, none⟩ (.slice ta R.1.tm.length tc) = W8 := e8
    rw [e8]
    go_wp2_with fail
    have h8 : W8.drew.heap[w.heap.size + 1]? = some (.cells #[.bool true, .bool false, .int .i64 0, .int .i64 (R.1.k : Int), .slice ta R.1.tm.length tc] 48 (0, 0)) := h8
    refine bodyPost_ret (results_tcu (t := 6) (p := 7) (u := 8) (ty := 48) rfl _ _ (w.heap.size + 1) 48 _ (0, 0) _ rfl h8 Tryz.underlying48 rfl (by kernel_rfl) _ _ rfl rfl) rfl ?_
    rw [HT3.out]
    exact hE.kept0 (Kept.refl [] _).drew
 ·have hrI : (R.2 == 0) = false := by simpa using hr
  have hT := HT.out
  rw [HTE.out R.1 R.2 hr] at hT
  have e1 : IntKind.i64.wrap (a.tries + 1) = a.tries + 1 := by rw [IntKind.wrap_i64]; omega
  obtain ⟨w6, e6⟩ : ∃ w6, wc.setCell ⟨f', 3, none⟩ (Value.int .i64 (a.tries + 1)) = w6 := ⟨_, rfl⟩
  have z3 := FA1.out.free 3
  have c3 := FA1.out.cells.2.2.2.1
  have T6 : TT [61] w2 wc w6 := by rw [← e6]; exact TT.set (i := 3) FA1.out.box FA1.out.hf (Iv (a.tries + 1))
  have FA6 : Hid (FA w2 w6 f' fj' fi' fo' (a.tries + 1) vc a) := Hid.mk (by rw [← e6]; exact FA1.out.set3 (a.tries + 1))
  have MD6 := Hid.mk (MD1.out.turn T6 (by decide))
  have I6 := Hid.mk (T6.isFI I1.out (by decide) (by decide) (by decide))
  have K6 : Hid (Kept [] w2 w6) := Hid.mk (T6.kept0 KC.out)
  have K06 : Hid (Kept [] W0 w6) := Hid.mk (K2.out.then K6.out)
  have c3' := FA6.out.cells.2.2.2.1
  have HFX : Hid (∀ (Wx : World) (tr : Ac) (o : Oc), o.tm = [] → Kept [] W0 Wx → AF w2 Wx f' fj' fi' fo' tr → ∃ W8, ((((Wx.setCell ⟨w.heap.size + 1, 0, none⟩ (.bool o.done)).setCell ⟨w.heap.size + 1, 1, none⟩ (.bool o.poi)).setCell ⟨w.heap.size + 1, 2, none⟩ (.int .i64 o.failed)).setCell ⟨w.heap.size + 1, 3, none⟩ (.int .i64 (o.steps : Int))).setCell ⟨w.heap.size + 1, 4, none⟩ (.slice none 0 0) = W8 ∧ W8.heap[w.heap.size + 1]? = some (.cells #[.bool o.done, .bool o.poi, .int .i64 o.failed, .int .i64 (o.steps : Int), .slice none 0 0] 48 (0, 0)) ∧
    TkF w0 w (tr, o, 0) (.returned (.tuple #[Ptr f', Oval o (.slice none 0 0), .int .i64 0])) W8) := Hid.mk fun Wx tr o ho k haf =>
   HFIN.out Wx (tr, o, 0) (.slice none 0 0) f' fj' fi' fo' k ⟨_, rfl, by rw [show (tr, o, (0 : Int)).2.1.tm = [] from ho]; exact ReadsR.nil 5 Wx, fun g' hg' => by simp [Value.ownBlock] at hg'⟩ (AF.elder haf HSZ.out.2)
  clear T6 MD1 J1 I1 FA1 HTR HFIN
  by_cases ht3 : a.tries + 1 < 3
  ·rw [if_pos ht3] at hT
   have HT2 := Hid.mk hT
   obtain ⟨-, -, -, m11⟩ := MD6.out.cells HREG.out
   have hbx := HB1.out w6 K06.out
   obtain ⟨g0, g1, g2, g3, g4⟩ := free5 hbx
   obtain ⟨x0, x1, x2, x3, x4⟩ := cells5 hbx
   have HF9 := Hid.mk (HFX.out w6 ⟨a.j, a.inb, a.out, a.tries + 1, a.poi⟩ ⟨false, false, R.2, R.1.k, []⟩ rfl K06.out ⟨vc, FA6.out.as rfl rfl rfl, MD6.out.ps, ⟨HGC.out.j, HGC.out.i8, HGC.out.inb, HGC.out.out, HGC.out.poi⟩⟩)
   clear hT hbx hsd
   go_wp2_with fail
   go_region
   obtain ⟨W8, e8, h8, hE⟩ := HF9.out
   have e8 : ((((w6.setCell ⟨w.heap.size + 1, 0, none⟩ (.bool false)).setCell ⟨w.heap.size + 1, 1, none⟩ (.bool false)).setCell ⟨w.heap.size + 1, 2, none⟩ (.int .i64 R.2)).setCell ⟨w.heap.size + 1, 3, none⟩ (.int .i64 (R.1.k : Int))).setCell ⟨w.heap.size + 1, 4, none⟩ (.slice none 0 0) = W8 := e8
   rw [e8]
   go_wp2_with fail
   have h8 : W8.drew.heap[w.heap.size + 1]? = some (.cells #[.bool false, .bool false, .int .i64 R.2, .int .i64 (R.1.k : Int), .slice none 0 0] 48 (0, 0)) := h8
   refine bodyPost_ret (results_tcu (t := 6) (p := 7) (u := 8) (ty := 48) rfl _ _ (w.heap.size + 1) 48 _ (0, 0) _ rfl h8 Tryz.underlying48 rfl (by kernel_rfl) _ _ rfl rfl) rfl ?_
   rw [HT2.out]
   exact hE.kept0 (Kept.refl [] _).drew
  ·rw [if_neg ht3] at hT
   have ht3I : (a.tries + 1 < 3) = False := eq_false ht3
   obtain ⟨av', cv', rfl⟩ := MD6.out.ps.form
   have c4 := FA6.out.cells.2.2.2.2
   have hpl : a.poi.length ≤ 8 := hsd.2.2.2.1
   by_cases h8 : a.poi.length = 8
   ·rw [if_pos h8] at hT
    have HT2 := Hid.mk hT
    rw [h8] at c4
    have hbx := HB1.out w6 K06.out
    obtain ⟨g0, g1, g2, g3, g4⟩ := free5 hbx
    obtain ⟨x0, x1, x2, x3, x4⟩ := cells5 hbx
    clear hT hbx hsd h8 hpl ht3
    go_wp2_with fail
    obtain ⟨W8, e8, h8, hE⟩ := HEND.out w6 8 K06.out
    rw [e8]
    refine bodyPost_ret (results_tcu (t := 6) (p := 7) (u := 8) (ty := 48) rfl _ _ (w.heap.size + 1) 48 _ (0, 0) _ rfl h8 Tryz.underlying48 rfl (by kernel_rfl) _ _ rfl rfl) rfl ?_
    rw [HT2.out]
    exact hE
   ·rw [if_neg h8] at hT
    have HT2 := Hid.mk hT
    have hplI : ((8 : Int) ≤ (a.poi.length : Int)) = False := eq_false (by omega)
    have hplJ : (a.poi.length : Int) < 8 := by omega
    have HC41 := Hid.mk (rpop14_new I6.out HQ8.out K6.out.size)
    have c1 := FA6.out.cells.2.1
    have HPL := Hid.mk hpl
    clear hT hsd h8 ht3
    go_wp2_with fail
    refine HC41.out.mono ?_
    rintro e w5 ⟨rfl, v5, hI5, hJ5, k5, hfr5⟩
    have hT5 := TT.one (w0 := w2) I6.out.box I6.out.fr k5
    have FA5 := Hid.mk (FA6.out.putI hI5 k5)
    have MD5 := Hid.mk (MD6.out.turn hT5 (by decide))
    have K5 : Hid (Kept [] w2 w5) := Hid.mk (hT5.kept0 K6.out)
    obtain ⟨Wb, eb, kb, hzb, hbb⟩ := box1 w5 (.cells #[Sv x.fr, .int .u64 (x.ser : Int), .int .i64 x.kind, .slice xad x.args.length xcap] 81)
    have FAb := Hid.mk (FA5.out.kept0 kb)
    have MDb := Hid.mk (MD5.out.kept0 kb)
    have Ib := Hid.mk (hI5.kept0 kb)
    have Kb : Hid (Kept [] w2 Wb) := Hid.mk (K5.out.then kb)
    have HSB : Hid (∀ V, Kept [] Wb V → V.cell? ⟨w5.heap.size, 0, none⟩ = some (Sv x.fr) ∧ V.cell? ⟨w5.heap.size, 1, none⟩ = some (.int .u64 (x.ser : Int)) ∧ V.cell? ⟨w5.heap.size, 2, none⟩ = some (.int .i64 x.kind) ∧ V.cell? ⟨w5.heap.size, 3, none⟩ = some (.slice xad x.args.length xcap)) := Hid.mk fun V k => cells4 (k.keeps hbb (by simp))
    obtain ⟨ad, c, w7, hrun, hP7, k7, rs7, hO7⟩ := (MDb.out.kept0 (Kept.refl [] Wb).drew).ps.more x xad xcap ((hJ5.kept kb (by simp)).kept (Kept.refl [] Wb).drew (by simp)) (by omega)
    have hO6 : ∃ rs, OwnsR 81 4 w6 (.slice av' a.poi.length cv') rs := by
     obtain ⟨ms6, a1, -, -⟩ := MD6.out.ps
     exact ⟨_, a1⟩
    have hsep : ∀ g', (Value.slice av' a.poi.length cv').ownBlock = some g' → v5.ownBlock ≠ some g' := fun g' h1 h2 => by
     have q1 := hfr5 g' h2
     obtain ⟨rs6, hO6⟩ := hO6
     have q2 := hO6.ltB g' h1
     omega
    have T7 := TT.ofR hO7 HFR.out k7
    have FA7 := Hid.mk ((FAb.out.kept0 (Kept.refl [] Wb).drew).aside (Ib.out.kept0 (Kept.refl [] Wb).drew) rfl hO7 HFR.out hsep k7)
    obtain ⟨w8, e8⟩ : ∃ w8, w7.setCell ⟨f', 4, none⟩ (.slice ad (a.poi.length + 1) c) = w8 := ⟨_, rfl⟩
    have T8 : TT [61] w2 w7 w8 := by rw [← e8]; exact TT.set (i := 4) FA7.out.box FA7.out.hf (.slice ad (a.poi.length + 1) c)
    have FA8 : Hid (FA w2 w8 f' fj' fi' fo' (a.tries + 1) (.slice ad (a.poi.length + 1) c) ⟨a.j, qt.map (·.x), a.out, a.tries, a.poi⟩) := Hid.mk (by rw [← e8]; exact FA7.out.set4 _)
    obtain ⟨w9, e9⟩ : ∃ w9, w8.setCell ⟨f', 3, none⟩ (Value.int .i64 0) = w9 := ⟨_, rfl⟩
    have T9 : TT [61] w2 w8 w9 := by rw [← e9]; exact TT.set (i := 3) FA8.out.box FA8.out.hf (Iv 0)
    have FA9 : Hid (FA w2 w9 f' fj' fi' fo' 0 (.slice ad (a.poi.length + 1) c) ⟨a.j, qt.map (·.x), a.out, a.tries, a.poi⟩) := Hid.mk (by rw [← e9]; exact FA8.out.set3 0)
    have hPo9 : PoiO w9 (.slice ad (a.poi.length + 1) c) (a.poi ++ [x]) := (hP7.turn T8 (by decide) (by decide)).turn T9 (by decide) (by decide)
    have KW7 : Hid (Kept [] w2 w7) := Hid.mk (T7.kept0 Kb.out.drew)
    have KW9 : Hid (Kept [] w2 w9) := Hid.mk (T9.kept0 (T8.kept0 KW7.out))
    have K09 : Hid (Kept [] W0 w9) := Hid.mk (K2.out.then KW9.out)
    have m9 : w9.cell? ⟨g, 11, none⟩ = some (.int .i64 (R.1.k : Int)) := by
     have hbg := T9.box (T8.box (T7.box (MDb.out.kept0 (Kept.refl [] Wb).drew).box (by decide)) (by decide)) (by decide)
     rw [HREG.out] at hbg
     obtain ⟨-, -, -, -, -, -, -, -, -, -, -, c11⟩ := cells12 hbg
     exact c11
    have hbx := HB1.out w9 K09.out
    obtain ⟨g0, g1, g2, g3, g4⟩ := free5 hbx
    obtain ⟨x0, x1, x2, x3, x4⟩ := cells5 hbx
    have HF9 := Hid.mk (HFX.out w9 ⟨a.j, t, a.out, 0, a.poi ++ [x]⟩ ⟨false, true, R.2, R.1.k, []⟩ rfl K09.out ⟨_, FA9.out.as rfl HQT.out.symm rfl, hPo9, ⟨HGC.out.j, by have := HGC.out.i8; rw [HIN.out, List.length_cons] at this; show t.length ≤ 8; omega, fun y hy => HGC.out.inb y (by rw [HIN.out]; exact List.mem_cons_of_mem _ hy), HGC.out.out, fun y hy => by
     rcases List.mem_append.1 hy with hy | hy
     ·exact HGC.out.poi y hy
     ·simp at hy; subst hy; exact (HGC.out.inb y (by rw [HIN.out]; simp)).1⟩⟩)
    have c4b : Wb.cell? ⟨f', 4, none⟩ = some (.slice av' a.poi.length cv') := FAb.out.cells.2.2.2.2
    have c4a : (Wb.alloc (.cells #[Sv x.fr, .int .u64 (x.ser : Int), .int .i64 x.kind, .slice xad x.args.length xcap] 81)).cell? ⟨f', 4, none⟩ = some (.slice av' a.poi.length cv') := (FAb.out.kept0 ((Kept.refl [] Wb).alloc _)).cells.2.2.2.2
    have c47 : w7.cell? ⟨f', 4, none⟩ = some (.slice av' a.poi.length cv') := FA7.out.cells.2.2.2.2
    have z47 := FA7.out.free 4
    have c83 := FA8.out.cells.2.2.2.1
    have z83 := FA8.out.free 3
    have S0 := HSB.out Wb.drew (Kept.refl [] Wb).drew
    have SA := HSB.out (Wb.alloc (.cells #[Sv x.fr, .int .u64 (x.ser : Int), .int .i64 x.kind, .slice xad x.args.length xcap] 81)).drew ((Kept.refl [] Wb).alloc _).drew
    have h7b : w7.heap[w5.heap.size]? = some (.cells #[Sv x.fr, .int .u64 (x.ser : Int), .int .i64 x.kind, .slice xad x.args.length xcap] 81 (0, 0)) := k7.keeps ((Kept.refl [] Wb).drew.keeps hbb (by simp)) (fun hm => by
     obtain ⟨rs6, hO6⟩ := hO6
     have q2 := hO6.ltB w5.heap.size (by simpa using hm)
     have q3 := k5.size
     omega)
    have S7 : w7.cell? ⟨w5.heap.size, 0, none⟩ = some (Sv x.fr) ∧ w7.cell? ⟨w5.heap.size, 1, none⟩ = some (.int .u64 (x.ser : Int)) ∧ w7.cell? ⟨w5.heap.size, 2, none⟩ = some (.int .i64 x.kind) ∧ w7.cell? ⟨w5.heap.size, 3, none⟩ = some (.slice xad x.args.length xcap) := cells4 h7b
    have S8 : w8.cell? ⟨w5.heap.size, 0, none⟩ = some (Sv x.fr) ∧ w8.cell? ⟨w5.heap.size, 1, none⟩ = some (.int .u64 (x.ser : Int)) ∧ w8.cell? ⟨w5.heap.size, 2, none⟩ = some (.int .i64 x.kind) ∧ w8.cell? ⟨w5.heap.size, 3, none⟩ = some (.slice xad x.args.length xcap) := cells4 (T8.box h7b (by decide))
    clear h7b
    have hrun : (Builtin.append_ #[26, 26] 26 #[.slice av' a.poi.length cv', .slice (some ⟨Wb.heap.size, 0, none⟩) 1 1]).run Tryz.prog (Wb.alloc (.cells #[Sv x.fr, .int .u64 (x.ser : Int), .int .i64 x.kind, .slice xad x.args.length xcap] 81)).drew = .ok (.slice ad (a.poi.length + 1) c) w7 := hrun
    clear hP7 k7 hO7 T7 T8 T9 hO6 hsep hPo9 hbx hI5 hJ5 k5 hfr5 hT5 kb hzb hbb HC41 c1 hplI hplJ
    go_wp2_with fail
    refine wp_region_noPanic ?_
    refine wp_region_held_drew (S := fun V => V.cell? ⟨w5.heap.size, 0, none⟩ = some (Sv x.fr) ∧ V.cell? ⟨w5.heap.size, 1, none⟩ = some (.int .u64 (x.ser : Int)) ∧ V.cell? ⟨w5.heap.size, 2, none⟩ = some (.int .i64 x.kind) ∧ V.cell? ⟨w5.heap.size, 3, none⟩ = some (.slice xad x.args.length xcap)) (by kernel_rfl) S0 (fun hHeld => ?_)
    refine wpAnyH_take (i := 0) (v := ?v0) rfl (by kernel_rfl) (by kernel_rfl) (by kernel_rfl) (fun _ _ _ h => h) (Or.inl ⟨by rfl, ?hy0⟩) (by assumption) ?rest0
    case hy0 => (intro w hSw; (try dsimp only at hSw); first | (go_simp; done) | (go_simp; with_reducible rfl))
    try simp only [Act.put, List.setIfInBounds_toArray]
    refine wpAnyH_take (i := 1) (v := ?v1) rfl (by kernel_rfl) (by kernel_rfl) (by kernel_rfl) (fun _ _ _ h => h) (Or.inl ⟨by rfl, ?hy1⟩) (by assumption) ?rest1
    case hy1 => (intro w hSw; (try dsimp only at hSw); first | (go_simp; done) | (go_simp; with_reducible rfl))
    try simp only [Act.put]
    refine wpAnyH_take (i := 2) (v := ?v2) rfl (by kernel_rfl) (by kernel_rfl) (by kernel_rfl) (fun _ _ _ h => h) (Or.inl ⟨by rfl, ?hy2⟩) (by assumption) ?rest2
    case hy2 => (intro w hSw; (try dsimp only at hSw); first | (go_simp; done) | (go_simp; with_reducible rfl))
    try simp only [Act.put]
    refine wpAnyH_take (i := 3) (v := ?v3) rfl (by kernel_rfl) (by kernel_rfl) (by kernel_rfl) (fun _ _ _ h => h) (Or.inl ⟨by rfl, ?hy3⟩) (by assumption) ?rest3
    case hy3 => (intro w hSw; (try dsimp only at hSw); first | (go_simp; done) | (go_simp; with_reducible rfl))
    try simp only [Act.put]
    refine wpAnyH_take (i := 5) (v := ?v4) rfl (by kernel_rfl) (by kernel_rfl) (by kernel_rfl) (fun _ _ _ h => h) (Or.inl ⟨by rfl, ?hy4⟩) (by assumption) ?rest4
    case hy4 => (intro w hSw; (try dsimp only at hSw); first | (go_simp; done) | (go_simp; with_reducible rfl))
    try simp only [Act.put]
    refine wpAnyH_ready (rs := [4, 6]) (by kernel_rfl) (by simp) ?_
    refine AllReadyH.cons rfl (fun K hK => ?_) (AllReadyH.cons rfl (fun K hK => ?_) AllReadyH.nil)
    ·go_simp
     refine hK.out _ _ S0 (fun hHeld => ?_)
     clear hK K
     try simp only [Act.put, List.setIfInBounds_toArray, List.set_cons_zero, List.set_cons_succ]
     refine wpAnyH_ready (rs := [6]) (by kernel_rfl) (by simp) ?_
     refine AllReadyH.cons rfl (fun K hK => ?_) AllReadyH.nil
     go_simp
     refine hK.out _ _ SA (fun hHeld => ?_)
     clear hK K
     try simp only [Act.put, List.setIfInBounds_toArray, List.set_cons_zero, List.set_cons_succ]
     refine wpAnyH_ready (rs := [7]) (by kernel_rfl) (by simp) ?_
     refine AllReadyH.cons rfl (fun K hK => ?_) AllReadyH.nil
     refine step_append_run 26 (.tmp 177) (.tmp 179) (by rfl) (by rfl) _ _ (by rfl) (by rfl) hrun ?_
     refine hK.out _ _ S7 (fun hHeld => ?_)
     clear hK K
     try simp only [Act.put, List.setIfInBounds_toArray]
     refine wpAnyH_take (i := 8) (v := ?v5) rfl (by kernel_rfl) (by kernel_rfl) (by kernel_rfl) (fun _ _ _ h => h) (Or.inl ⟨by rfl, ?hy5⟩) (by assumption) ?rest5
     case hy5 => (intro w hSw; (try dsimp only at hSw); first | (go_simp; done) | (go_simp; with_reducible rfl))
     try simp only [Act.put]
     refine wpAnyH_take (i := 9) (v := ?v6) rfl (by kernel_rfl) (by kernel_rfl) (by kernel_rfl) (fun _ _ _ h => h) (Or.inl ⟨by rfl, ?hy6⟩) (by assumption) ?rest6
     case hy6 => (intro w hSw; (try dsimp only at hSw); first | (go_simp; done) | (go_simp; with_reducible rfl))
     try simp only [Act.put]
     refine wpAnyH_ready (rs := [10]) (by kernel_rfl) (by simp) ?_
     refine AllReadyH.cons rfl (fun K hK => ?_) AllReadyH.nil
     go_simp
     refine hK.out _ _ S8 (fun hHeld => ?_)
     clear hK K
     try simp only [Act.put, List.setIfInBounds_toArray, List.set_cons_zero, List.set_cons_succ]
     refine wpAnyH_done (by kernel_rfl) ?_ _
     refine NoPanic.normal ?_
     clear hHeld
     go_wp2_with fail
     go_region
     obtain ⟨W8, ee8, h8, hE⟩ := HF9.out
     have ee8 : ((((w9.setCell ⟨w.heap.size + 1, 0, none⟩ (.bool false)).setCell ⟨w.heap.size + 1, 1, none⟩ (.bool true)).setCell ⟨w.heap.size + 1, 2, none⟩ (.int .i64 R.2)).setCell ⟨w.heap.size + 1, 3, none⟩ (.int .i64 (R.1.k : Int))).setCell ⟨w.heap.size + 1, 4, none⟩ (.slice none 0 0) = W8 := ee8
     rw [ee8]
     go_wp2_with fail
     have h8 : W8.drew.heap[w.heap.size + 1]? = some (.cells #[.bool false, .bool true, .int .i64 R.2, .int .i64 (R.1.k : Int), .slice none 0 0] 48 (0, 0)) := h8
     refine bodyPost_ret (results_tcu (t := 6) (p := 7) (u := 8) (ty := 48) rfl _ _ (w.heap.size + 1) 48 _ (0, 0) _ rfl h8 Tryz.underlying48 rfl (by kernel_rfl) _ _ rfl rfl) rfl ?_
     rw [HT2.out]
     exact hE.kept0 (Kept.refl [] _).drew
    ·go_simp
     refine hK.out _ _ SA (fun hHeld => ?_)
     clear hK K
     try simp only [Act.put, List.setIfInBounds_toArray, List.set_cons_zero, List.set_cons_succ]
     refine wpAnyH_ready (rs := [4]) (by kernel_rfl) (by simp) ?_
     refine AllReadyH.cons rfl (fun K hK => ?_) AllReadyH.nil
     go_simp
     refine hK.out _ _ SA (fun hHeld => ?_)
     clear hK K
     try simp only [Act.put, List.setIfInBounds_toArray, List.set_cons_zero, List.set_cons_succ]
     refine wpAnyH_ready (rs := [7]) (by kernel_rfl) (by simp) ?_
     refine AllReadyH.cons rfl (fun K hK => ?_) AllReadyH.nil
     refine step_append_run 26 (.tmp 177) (.tmp 179) (by rfl) (by rfl) _ _ (by rfl) (by rfl) hrun ?_
     refine hK.out _ _ S7 (fun hHeld => ?_)
     clear hK K
     try simp only [Act.put, List.setIfInBounds_toArray]
     refine wpAnyH_take (i := 8) (v := ?v7) rfl (by kernel_rfl) (by kernel_rfl) (by kernel_rfl) (fun _ _ _ h => h) (Or.inl ⟨by rfl, ?hy7⟩) (by assumption) ?rest7
     case hy7 => (intro w hSw; (try dsimp only at hSw); first | (go_simp; done) | (go_simp; with_reducible rfl))
     try simp only [Act.put]
     refine wpAnyH_take (i := 9) (v := ?v8) rfl (by kernel_rfl) (by kernel_rfl) (by kernel_rfl) (fun _ _ _ h => h) (Or.inl ⟨by rfl, ?hy8⟩) (by assumption) ?rest8
     case hy8 => (intro w hSw; (try dsimp only at hSw); first | (go_simp; done) | (go_simp; with_reducible rfl))
     try simp only [Act.put]
     refine wpAnyH_ready (rs := [10]) (by kernel_rfl) (by simp) ?_
     refine AllReadyH.cons rfl (fun K hK => ?_) AllReadyH.nil
     go_simp
     refine hK.out _ _ S8 (fun hHeld => ?_)
     clear hK K
     try simp only [Act.put, List.setIfInBounds_toArray, List.set_cons_zero, List.set_cons_succ]
     refine wpAnyH_done (by kernel_rfl) ?_ _
     refine NoPanic.normal ?_
     clear hHeld
     go_wp2_with fail
     go_region
     obtain ⟨W8, ee8, h8, hE⟩ := HF9.out
     have ee8 : ((((w9.setCell ⟨w.heap.size + 1, 0, none⟩ (.bool false)).setCell ⟨w.heap.size + 1, 1, none⟩ (.bool true)).setCell ⟨w.heap.size + 1, 2, none⟩ (.int .i64 R.2)).setCell ⟨w.heap.size + 1, 3, none⟩ (.int .i64 (R.1.k : Int))).setCell ⟨w.heap.size + 1, 4, none⟩ (.slice none 0 0) = W8 := ee8
     rw [ee8]
     go_wp2_with fail
     have h8 : W8.drew.heap[w.heap.size + 1]? = some (.cells #[.bool false, .bool true, .int .i64 R.2, .int .i64 (R.1.k : Int), .slice none 0 0] 48 (0, 0)) := h8
     refine bodyPost_ret (results_tcu (t := 6) (p := 7) (u := 8) (ty := 48) rfl _ _ (w.heap.size + 1) 48 _ (0, 0) _ rfl h8 Tryz.underlying48 rfl (by kernel_rfl) _ _ rfl rfl) rfl ?_
     rw [HT2.out]
     exact hE.kept0 (Kept.refl [] _).drew
end Go.Proofs.YtngnenbidpojeaaGreatDoor
