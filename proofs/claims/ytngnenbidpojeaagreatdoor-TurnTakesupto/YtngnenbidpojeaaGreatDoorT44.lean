import Derived.Test.YtngnenbidpojeaaGreatDoorT14
import Derived.Test.YtngnenbidpojeaaGreatDoorT25
import Derived.Test.YtngnenbidpojeaaGreatDoorT31
import Derived.Test.YtngnenbidpojeaaGreatDoorT32
import Derived.Test.YtngnenbidpojeaaGreatDoorT41
import Derived.Test.YtngnenbidpojeaaGreatDoorT42
/-
 The document's turn: of an actor that has no bytes.
-/
namespace Go.Proofs.YtngnenbidpojeaaGreatDoor
set_option maxRecDepth 100000
open Go.RowKit
set_option linter.unusedVariables false
set_option maxHeartbeats 8000000 in
theorem rtake12_b {w0 w : World} {f fj fi fo B V : Nat} {a : Ac} {nv cv : Value} {pg : Pg} {now : Int} (h : AF w0 w f fj fi fo a) (hs0 : w0.heap.size ≤ w.heap.size) (hL : Lim a B V) (hB : B ≤ 1000000) (hV : V ≤ 1000000)
  (hP : IsP_N w nv cv pg) (hnm : ∀ s ∈ pg.names, s.length ≤ 9223372036854775807) (hO : OkP pg) (hn : I64 now) (hs : soundA a.tries a.inb.length a.poi = false) :
  Calls Tryz.prog 12 #[.agg #[nv, cv], Ptr f, .int .i64 now] w (TkF w0 w (takeA pg a now)) := by
 obtain ⟨na, nc, ca, cc, rfl, rfl, -, -⟩ := hP.form
 obtain ⟨W0, e0, k0, hz0, hb0, hb1⟩ := box2 w (.cells #[.slice na pg.names.length nc, .slice ca pg.code.length cc] 25) (.cells #[.bool false, .bool false, .int .i64 0, .int .i64 0, .slice none 0 0] 48)
 have HK := Hid.mk k0
 have HA := Hid.mk (h.kept0 k0)
 have HPg := Hid.mk (hP.keep k0)
 have HX := Hid.mk (And.intro hnm (And.intro hO hn))
 have HL := Hid.mk (And.intro hL (And.intro hB hV))
 have HLT : Hid (w0.heap.size ≤ w.heap.size ∧ W0.heap.size = w.heap.size + 2) := Hid.mk ⟨hs0, hz0⟩
 obtain ⟨v, hfa, hpo, hg⟩ := h.kept0 k0
 obtain ⟨av, cv, rfl⟩ := hpo.form
 obtain ⟨ui, qs, hI, hq⟩ := hfa.i
 obtain ⟨ai, ci, rfl, -, -⟩ := hI.own.row.form
 have hql : qs.length = a.inb.length := by rw [← hq, List.length_map]
 rw [hql] at hI
 have HFA := Hid.mk hfa
 have HII := Hid.mk hI
 have HS : Hid (∀ W, Kept [] W0 W → (W.cell? ⟨w.heap.size, 0, none⟩ = some (.slice na pg.names.length nc) ∧ W.cell? ⟨w.heap.size, 1, none⟩ = some (.slice ca pg.code.length cc)) ∧ W.cell? ⟨f, 1, none⟩ = some (Ptr fi) ∧ W.cell? ⟨f, 3, none⟩ = some (Iv a.tries) ∧ W.cell? ⟨f, 4, none⟩ = some (.slice av a.poi.length cv) ∧ W.cell? ⟨fi, 0, none⟩ = some (.slice ai a.inb.length ci)) := Hid.mk fun W k => by
  obtain ⟨d0, d1, d2, d3, d4⟩ := (HFA.out.kept0 k).cells
  exact ⟨cells2_N (k.keeps hb0 (by simp)), d1, d3, d4, cell_of_one (HII.out.kept0 k).box⟩
 have HC37 : Hid (∀ W, Kept [] W0 W → Calls Tryz.prog 37 #[Iv a.tries, .int .i64 (a.inb.length : Int), .slice av a.poi.length cv] W fun e w' => e = .returned (.bool (soundA a.tries a.inb.length a.poi)) ∧ Kept [] W w') := Hid.mk fun W k => by
  obtain ⟨ms, m1, m2, m3⟩ := (hpo.kept0 k).at
  have := sound29 a.tries a.inb.length m1
  rwa [m3] at this
 have HC19 : Hid (∀ W, Kept [] W0 W → Calls Tryz.prog 19 #[.agg #[.slice na pg.names.length nc, .slice ca pg.code.length cc]] W fun e w' => e = .returned (.bool (formedP pg)) ∧ Kept [] W w') := Hid.mk fun W k => formed14_N (HPg.out.keep k) hnm
 have HB1 : Hid (∀ W, Kept [] W0 W → W.heap[w.heap.size + 1]? = some (.cells #[.bool false, .bool false, .int .i64 0, .int .i64 0, .slice none 0 0] 48 (0, 0))) := Hid.mk fun W k => k.keeps hb1 (by simp)
 have HEND : Hid (∀ (Wx : World) (c : Int), Kept [] W0 Wx → ∃ W8, ((((Wx.setCell ⟨w.heap.size + 1, 0, none⟩ (.bool false)).setCell ⟨w.heap.size + 1, 1, none⟩ (.bool false)).setCell ⟨w.heap.size + 1, 2, none⟩ (.int .i64 0)).setCell ⟨w.heap.size + 1, 3, none⟩ (.int .i64 0)).setCell ⟨w.heap.size + 1, 4, none⟩ (.slice none 0 0) = W8 ∧ W8.heap[w.heap.size + 1]? = some (.cells #[.bool false, .bool false, .int .i64 0, .int .i64 0, .slice none 0 0] 48 (0, 0)) ∧
   TkF w0 w (a, ocN, c) (.returned (.tuple #[Ptr f, .agg #[.bool false, .bool false, .int .i64 0, .int .i64 0, .slice none 0 0], .int .i64 c])) W8) := Hid.mk fun Wx c k => by
  obtain ⟨W8, e8, k8, h8, -⟩ := put5 (HB1.out Wx k) (.bool false) (.bool false) (.int .i64 0) (.int .i64 0) (.slice none 0 0)
  refine ⟨W8, e8, h8, f, fj, fi, fo, _, rfl, isOc_nil _ _ _ _ 0, ?_, ((HK.out.trans k (by simp))).trans k8 (fun x hx => .inr (by simp at hx; omega))⟩
  obtain ⟨v, q1, q2, q3⟩ := HA.out.kept0 k
  have T2 := TT.one (HB1.out Wx k) (w0 := w0) (by have := HLT.out.1; omega) k8
  exact ⟨v, q1.turn T2 (by decide), q2.turn T2 (by decide) (by decide), q3⟩
 have S0 := HS.out _ (Kept.refl _ _).drew
 have KD : Hid (Kept [] W0 W0.drew) := Hid.mk (Kept.refl [] W0).drew
 clear h hP hnm hO hn hL hB hV k0 hb0 hb1 hz0 hs0 hfa hpo hg hI hq
 clear hql
 have hT : takeA pg a now = (a, ocN, 1) := by unfold takeA; rw [if_neg (fun h => by rw [hs] at h; cases h.1)]
 rw [hs] at HC37
 have HT := Hid.mk hT
 clear hT hs HC19
 go_enter Tryz.func12, Tryz.ntmps12
 go_wp2_with fail
 refine wp_region_noPanic ?_
 refine wp_region_held_drew (S := fun V => (V.cell? ⟨w.heap.size, 0, none⟩ = some (.slice na pg.names.length nc) ∧ V.cell? ⟨w.heap.size, 1, none⟩ = some (.slice ca pg.code.length cc)) ∧ V.cell? ⟨f, 1, none⟩ = some (Ptr fi) ∧ V.cell? ⟨f, 3, none⟩ = some (Iv a.tries) ∧ V.cell? ⟨f, 4, none⟩ = some (.slice av a.poi.length cv) ∧ V.cell? ⟨fi, 0, none⟩ = some (.slice ai a.inb.length ci)) (by kernel_rfl) S0 (fun hHeld => ?_)
 refine wpAnyH_take (i := 0) (v := ?v0) rfl (by kernel_rfl) (by kernel_rfl) (by kernel_rfl) (fun _ _ _ h => h) (Or.inl ⟨by rfl, ?hy0⟩) (by assumption) ?rest0
 case hy0 => (intro w hSw; (try dsimp only at hSw); first | (go_simp; done) | (go_simp; with_reducible rfl))
 try simp only [Act.put, List.setIfInBounds_toArray]
 refine wpAnyH_take (i := 1) (v := ?v1) rfl (by kernel_rfl) (by kernel_rfl) (by kernel_rfl) (fun _ _ _ h => h) (Or.inl ⟨by rfl, ?hy1⟩) (by assumption) ?rest1
 case hy1 => (intro w hSw; (try dsimp only at hSw); first | (go_simp; done) | (go_simp; with_reducible rfl))
 try simp only [Act.put]
 refine wpAnyH_take (i := 2) (v := ?v2) rfl (by kernel_rfl) (by kernel_rfl) (by kernel_rfl) (fun _ _ _ h => h) (Or.inl ⟨by rfl, ?hy2⟩) (by assumption) ?rest2
 case hy2 => (intro w hSw; (try dsimp only at hSw); first | (go_simp; done) | (go_simp; with_reducible rfl))
 try simp only [Act.put]
 refine wpAnyH_take (i := 3) (v := ?v3) rfl (by kernel_rfl) (by kernel_rfl) (by kernel_rfl) (fun _ _ _ h => h) (Or.inl ⟨by rfl, ?hy3⟩) (by assumption) ?rest3
 case hy3 => (intro w hSw; (try dsimp only at hSw); first | (go_simp; done) | (go_simp; with_reducible rfl))
 try simp only [Act.put]
 refine wpAnyH_take (i := 4) (v := ?v4) rfl (by kernel_rfl) (by kernel_rfl) (by kernel_rfl) (fun _ _ _ h => h) (Or.inl ⟨by rfl, ?hy4⟩) (by assumption) ?rest4
 case hy4 => (intro w hSw; (try dsimp only at hSw); first | (go_simp; done) | (go_simp; with_reducible rfl))
 try simp only [Act.put]
 refine wpAnyH_take (i := 5) (v := ?v5) rfl (by kernel_rfl) (by kernel_rfl) (by kernel_rfl) (fun _ _ _ h => h) (Or.inl ⟨by rfl, ?hy5⟩) (by assumption) ?rest5
 case hy5 => (intro w hSw; (try dsimp only at hSw); first | (go_simp; done) | (go_simp; with_reducible rfl))
 try simp only [Act.put]
 refine wpAnyH_take (i := 6) (v := ?v6) rfl (by kernel_rfl) (by kernel_rfl) (by kernel_rfl) (fun _ _ _ h => h) (Or.inl ⟨by rfl, ?hy6⟩) (by assumption) ?rest6
 case hy6 => (intro w hSw; (try dsimp only at hSw); first | (go_simp; done) | (go_simp; with_reducible rfl))
 try simp only [Act.put]
 refine wpAnyH_take (i := 7) (v := ?v7) rfl (by kernel_rfl) (by kernel_rfl) (by kernel_rfl) (fun _ _ _ h => h) (Or.inl ⟨by rfl, ?hy7⟩) (by assumption) ?rest7
 case hy7 => (intro w hSw; (try dsimp only at hSw); first | (go_simp; done) | (go_simp; with_reducible rfl))
 try simp only [Act.put]
 refine wpAnyH_take (i := 8) (v := ?v8) rfl (by kernel_rfl) (by kernel_rfl) (by kernel_rfl) (fun _ _ _ h => h) (Or.inl ⟨by rfl, ?hy8⟩) (by assumption) ?rest8
 case hy8 => (intro w hSw; (try dsimp only at hSw); first | (go_simp; done) | (go_simp; with_reducible rfl))
 try simp only [Act.put]
 refine wpAnyH_take (i := 9) (v := ?v9) rfl (by kernel_rfl) (by kernel_rfl) (by kernel_rfl) (fun _ _ _ h => h) (Or.inl ⟨by rfl, ?hy9⟩) (by assumption) ?rest9
 case hy9 => (intro w hSw; (try dsimp only at hSw); first | (go_simp; done) | (go_simp; with_reducible rfl))
 try simp only [Act.put]
 refine wpAnyH_take (i := 10) (v := ?v10) rfl (by kernel_rfl) (by kernel_rfl) (by kernel_rfl) (fun _ _ _ h => h) (Or.inl ⟨by rfl, ?hy10⟩) (by assumption) ?rest10
 case hy10 => (intro w hSw; (try dsimp only at hSw); first | (go_simp; done) | (go_simp; with_reducible rfl))
 try simp only [Act.put]
 refine wpAnyH_take (i := 11) (v := ?v11) rfl (by kernel_rfl) (by kernel_rfl) (by kernel_rfl) (fun _ _ _ h => h) (Or.inl ⟨by rfl, ?hy11⟩) (by assumption) ?rest11
 case hy11 => (intro w hSw; (try dsimp only at hSw); first | (go_simp; done) | (go_simp; with_reducible rfl))
 try simp only [Act.put]
 refine wpAnyH_take (i := 12) (v := ?v12) rfl (by kernel_rfl) (by kernel_rfl) (by kernel_rfl) (fun _ _ _ h => h) (Or.inl ⟨by rfl, ?hy12⟩) (by assumption) ?rest12
 case hy12 => (intro w hSw; (try dsimp only at hSw); first | (go_simp; done) | (go_simp; with_reducible rfl))
 try simp only [Act.put]
 refine wpAnyH_take (i := 13) (v := ?v13) rfl (by kernel_rfl) (by kernel_rfl) (by kernel_rfl) (fun _ _ _ h => h) (Or.inl ⟨by rfl, ?hy13⟩) (by assumption) ?rest13
 case hy13 => (intro w hSw; (try dsimp only at hSw); first | (go_simp; done) | (go_simp; with_reducible rfl))
 try simp only [Act.put]
 refine wpAnyH_take (i := 14) (v := ?v14) rfl (by kernel_rfl) (by kernel_rfl) (by kernel_rfl) (fun _ _ _ h => h) (Or.inl ⟨by rfl, ?hy14⟩) (by assumption) ?rest14
 case hy14 => (intro w hSw; (try dsimp only at hSw); first | (go_simp; done) | (go_simp; with_reducible rfl))
 try simp only [Act.put]
 refine wpAnyH_take (i := 15) (v := ?v15) rfl (by kernel_rfl) (by kernel_rfl) (by kernel_rfl) (fun _ _ _ h => h) (Or.inl ⟨by rfl, ?hy15⟩) (by assumption) ?rest15
 case hy15 => (intro w hSw; (try dsimp only at hSw); first | (go_simp; done) | (go_simp; with_reducible rfl))
 try simp only [Act.put]
 refine wpAnyH_ready (rs := [16]) (by kernel_rfl) (by simp) ?_
 refine AllReadyH.cons rfl (fun K hK => ?_) AllReadyH.nil
 (go_simp; go_at_call 37; refine (HC37.out _ KD.out).mono ?_; rintro e w1 ⟨rfl, k1⟩; have K1 : Hid (Kept [] W0 w1) := Hid.mk (KD.out.then k1); clear k1)
 refine hK.out _ _ (HS.out _ K1.out) (fun hHeld => ?_)
 clear hK K
 try simp only [Act.put, List.setIfInBounds_toArray, List.set_cons_zero, List.set_cons_succ]
 refine wpAnyH_take (i := 17) (v := .bool true) rfl (by kernel_rfl) (by kernel_rfl) (by kernel_rfl) (fun _ _ _ h => h) (Or.inl ⟨by rfl, ?hz17⟩) (by assumption) ?res17
 case hz17 => (intro w hSw; (try dsimp only at hSw); first | (go_simp; done) | (go_simp; with_reducible rfl))
 simp only [List.getElem_toArray, List.getElem_cons_succ, List.getElem_cons_zero, Act.put, List.setIfInBounds_toArray, List.set_cons_zero, List.set_cons_succ]
 refine wpAnyH_take (i := 18) (v := .bool true) rfl (by kernel_rfl) (by kernel_rfl) (by kernel_rfl) (fun _ _ _ h => h) (Or.inl ⟨by rfl, ?hz18⟩) (by assumption) ?res18
 case hz18 => (intro w hSw; (try dsimp only at hSw); first | (go_simp; done) | (go_simp; with_reducible rfl))
 simp only [List.getElem_toArray, List.getElem_cons_succ, List.getElem_cons_zero, Act.put, List.setIfInBounds_toArray, List.set_cons_zero, List.set_cons_succ]
 refine wpAnyH_take (i := 19) (v := undef) rfl (by kernel_rfl) (by kernel_rfl) (by kernel_rfl) (fun _ _ _ h => h) (Or.inr ⟨by kernel_rfl, rfl⟩) (by assumption) ?_
 simp only [List.getElem_toArray, List.getElem_cons_succ, List.getElem_cons_zero, Act.put, List.setIfInBounds_toArray, List.set_cons_zero, List.set_cons_succ]
 refine wpAnyH_take (i := 20) (v := undef) rfl (by kernel_rfl) (by kernel_rfl) (by kernel_rfl) (fun _ _ _ h => h) (Or.inr ⟨by kernel_rfl, rfl⟩) (by assumption) ?_
 simp only [List.getElem_toArray, List.getElem_cons_succ, List.getElem_cons_zero, Act.put, List.setIfInBounds_toArray, List.set_cons_zero, List.set_cons_succ]
 refine wpAnyH_take (i := 21) (v := undef) rfl (by kernel_rfl) (by kernel_rfl) (by kernel_rfl) (fun _ _ _ h => h) (Or.inr ⟨by kernel_rfl, rfl⟩) (by assumption) ?_
 simp only [List.getElem_toArray, List.getElem_cons_succ, List.getElem_cons_zero, Act.put, List.setIfInBounds_toArray, List.set_cons_zero, List.set_cons_succ]
 refine wpAnyH_take (i := 22) (v := .bool true) rfl (by kernel_rfl) (by kernel_rfl) (by kernel_rfl) (fun _ _ _ h => h) (Or.inl ⟨by rfl, ?hz22⟩) (by assumption) ?res22
 case hz22 => (intro w hSw; (try dsimp only at hSw); first | (go_simp; done) | (go_simp; with_reducible rfl))
 simp only [List.getElem_toArray, List.getElem_cons_succ, List.getElem_cons_zero, Act.put, List.setIfInBounds_toArray, List.set_cons_zero, List.set_cons_succ]
 refine wpAnyH_take (i := 23) (v := .bool true) rfl (by kernel_rfl) (by kernel_rfl) (by kernel_rfl) (fun _ _ _ h => h) (Or.inl ⟨by rfl, ?hz23⟩) (by assumption) ?res23
 case hz23 => (intro w hSw; (try dsimp only at hSw); first | (go_simp; done) | (go_simp; with_reducible rfl))
 simp only [List.getElem_toArray, List.getElem_cons_succ, List.getElem_cons_zero, Act.put, List.setIfInBounds_toArray, List.set_cons_zero, List.set_cons_succ]
 refine wpAnyH_take (i := 24) (v := undef) rfl (by kernel_rfl) (by kernel_rfl) (by kernel_rfl) (fun _ _ _ h => h) (Or.inr ⟨by kernel_rfl, rfl⟩) (by assumption) ?_
 simp only [List.getElem_toArray, List.getElem_cons_succ, List.getElem_cons_zero, Act.put, List.setIfInBounds_toArray, List.set_cons_zero, List.set_cons_succ]
 refine wpAnyH_take (i := 25) (v := undef) rfl (by kernel_rfl) (by kernel_rfl) (by kernel_rfl) (fun _ _ _ h => h) (Or.inr ⟨by kernel_rfl, rfl⟩) (by assumption) ?_
 simp only [List.getElem_toArray, List.getElem_cons_succ, List.getElem_cons_zero, Act.put, List.setIfInBounds_toArray, List.set_cons_zero, List.set_cons_succ]
 refine wpAnyH_take (i := 26) (v := .bool true) rfl (by kernel_rfl) (by kernel_rfl) (by kernel_rfl) (fun _ _ _ h => h) (Or.inl ⟨by rfl, ?hz26⟩) (by assumption) ?res26
 case hz26 => (intro w hSw; (try dsimp only at hSw); first | (go_simp; done) | (go_simp; with_reducible rfl))
 simp only [List.getElem_toArray, List.getElem_cons_succ, List.getElem_cons_zero, Act.put, List.setIfInBounds_toArray, List.set_cons_zero, List.set_cons_succ]
 refine wpAnyH_done (by kernel_rfl) ?_ _
 refine NoPanic.normal ?_
 have hbx := HB1.out w1 K1.out
 obtain ⟨g0, g1, g2, g3, g4⟩ := free5 hbx
 obtain ⟨x0, x1, x2, x3, x4⟩ := cells5 hbx
 clear hbx S0
 go_wp2_with fail
 obtain ⟨W8, e8, h8, hE⟩ := HEND.out w1 1 K1.out
 rw [e8]
 refine bodyPost_ret (results_tcu (t := 6) (p := 7) (u := 8) (ty := 48) rfl _ _ (w.heap.size + 1) 48 _ (0, 0) _ rfl h8 Tryz.underlying48 rfl (by kernel_rfl) _ _ rfl rfl) rfl ?_
 rw [HT.out]
 exact hE
set_option maxHeartbeats 8000000 in
theorem rtake12_c {w0 w : World} {f fj fi fo B V : Nat} {a : Ac} {nv cv : Value} {pg : Pg} {now : Int} (h : AF w0 w f fj fi fo a) (hs0 : w0.heap.size ≤ w.heap.size) (hL : Lim a B V) (hB : B ≤ 1000000) (hV : V ≤ 1000000)
  (hP : IsP_N w nv cv pg) (hnm : ∀ s ∈ pg.names, s.length ≤ 9223372036854775807) (hO : OkP pg) (hn : I64 now) (hs : soundA a.tries a.inb.length a.poi = true) (hf : ¬ formedP pg = true) :
  Calls Tryz.prog 12 #[.agg #[nv, cv], Ptr f, .int .i64 now] w (TkF w0 w (takeA pg a now)) := by
 obtain ⟨na, nc, ca, cc, rfl, rfl, -, -⟩ := hP.form
 obtain ⟨W0, e0, k0, hz0, hb0, hb1⟩ := box2 w (.cells #[.slice na pg.names.length nc, .slice ca pg.code.length cc] 25) (.cells #[.bool false, .bool false, .int .i64 0, .int .i64 0, .slice none 0 0] 48)
 have HK := Hid.mk k0
 have HA := Hid.mk (h.kept0 k0)
 have HPg := Hid.mk (hP.keep k0)
 have HX := Hid.mk (And.intro hnm (And.intro hO hn))
 have HL := Hid.mk (And.intro hL (And.intro hB hV))
 have HLT : Hid (w0.heap.size ≤ w.heap.size ∧ W0.heap.size = w.heap.size + 2) := Hid.mk ⟨hs0, hz0⟩
 obtain ⟨v, hfa, hpo, hg⟩ := h.kept0 k0
 obtain ⟨av, cv, rfl⟩ := hpo.form
 obtain ⟨ui, qs, hI, hq⟩ := hfa.i
 obtain ⟨ai, ci, rfl, -, -⟩ := hI.own.row.form
 have hql : qs.length = a.inb.length := by rw [← hq, List.length_map]
 rw [hql] at hI
 have HFA := Hid.mk hfa
 have HII := Hid.mk hI
 have HS : Hid (∀ W, Kept [] W0 W → (W.cell? ⟨w.heap.size, 0, none⟩ = some (.slice na pg.names.length nc) ∧ W.cell? ⟨w.heap.size, 1, none⟩ = some (.slice ca pg.code.length cc)) ∧ W.cell? ⟨f, 1, none⟩ = some (Ptr fi) ∧ W.cell? ⟨f, 3, none⟩ = some (Iv a.tries) ∧ W.cell? ⟨f, 4, none⟩ = some (.slice av a.poi.length cv) ∧ W.cell? ⟨fi, 0, none⟩ = some (.slice ai a.inb.length ci)) := Hid.mk fun W k => by
  obtain ⟨d0, d1, d2, d3, d4⟩ := (HFA.out.kept0 k).cells
  exact ⟨cells2_N (k.keeps hb0 (by simp)), d1, d3, d4, cell_of_one (HII.out.kept0 k).box⟩
 have HC37 : Hid (∀ W, Kept [] W0 W → Calls Tryz.prog 37 #[Iv a.tries, .int .i64 (a.inb.length : Int), .slice av a.poi.length cv] W fun e w' => e = .returned (.bool (soundA a.tries a.inb.length a.poi)) ∧ Kept [] W w') := Hid.mk fun W k => by
  obtain ⟨ms, m1, m2, m3⟩ := (hpo.kept0 k).at
  have := sound29 a.tries a.inb.length m1
  rwa [m3] at this
 have HC19 : Hid (∀ W, Kept [] W0 W → Calls Tryz.prog 19 #[.agg #[.slice na pg.names.length nc, .slice ca pg.code.length cc]] W fun e w' => e = .returned (.bool (formedP pg)) ∧ Kept [] W w') := Hid.mk fun W k => formed14_N (HPg.out.keep k) hnm
 have HB1 : Hid (∀ W, Kept [] W0 W → W.heap[w.heap.size + 1]? = some (.cells #[.bool false, .bool false, .int .i64 0, .int .i64 0, .slice none 0 0] 48 (0, 0))) := Hid.mk fun W k => k.keeps hb1 (by simp)
 have HEND : Hid (∀ (Wx : World) (c : Int), Kept [] W0 Wx → ∃ W8, ((((Wx.setCell ⟨w.heap.size + 1, 0, none⟩ (.bool false)).setCell ⟨w.heap.size + 1, 1, none⟩ (.bool false)).setCell ⟨w.heap.size + 1, 2, none⟩ (.int .i64 0)).setCell ⟨w.heap.size + 1, 3, none⟩ (.int .i64 0)).setCell ⟨w.heap.size + 1, 4, none⟩ (.slice none 0 0) = W8 ∧ W8.heap[w.heap.size + 1]? = some (.cells #[.bool false, .bool false, .int .i64 0, .int .i64 0, .slice none 0 0] 48 (0, 0)) ∧
   TkF w0 w (a, ocN, c) (.returned (.tuple #[Ptr f, .agg #[.bool false, .bool false, .int .i64 0, .int .i64 0, .slice none 0 0], .int .i64 c])) W8) := Hid.mk fun Wx c k => by
  obtain ⟨W8, e8, k8, h8, -⟩ := put5 (HB1.out Wx k) (.bool false) (.bool false) (.int .i64 0) (.int .i64 0) (.slice none 0 0)
  refine ⟨W8, e8, h8, f, fj, fi, fo, _, rfl, isOc_nil _ _ _ _ 0, ?_, ((HK.out.trans k (by simp))).trans k8 (fun x hx => .inr (by simp at hx; omega))⟩
  obtain ⟨v, q1, q2, q3⟩ := HA.out.kept0 k
  have T2 := TT.one (HB1.out Wx k) (w0 := w0) (by have := HLT.out.1; omega) k8
  exact ⟨v, q1.turn T2 (by decide), q2.turn T2 (by decide) (by decide), q3⟩
 have S0 := HS.out _ (Kept.refl _ _).drew
 have KD : Hid (Kept [] W0 W0.drew) := Hid.mk (Kept.refl [] W0).drew
 clear h hP hnm hO hn hL hB hV k0 hb0 hb1 hz0 hs0 hfa hpo hg hI hq
 clear hql
 have hT : takeA pg a now = (a, ocN, 1) := by unfold takeA; rw [if_neg (fun h => hf h.2.1)]
 rw [hs] at HC37
 rw [show formedP pg = false by simpa using hf] at HC19
 have HT := Hid.mk hT
 clear hT hs hf
 go_enter Tryz.func12, Tryz.ntmps12
 go_wp2_with fail
 refine wp_region_noPanic ?_
 refine wp_region_held_drew (S := fun V => (V.cell? ⟨w.heap.size, 0, none⟩ = some (.slice na pg.names.length nc) ∧ V.cell? ⟨w.heap.size, 1, none⟩ = some (.slice ca pg.code.length cc)) ∧ V.cell? ⟨f, 1, none⟩ = some (Ptr fi) ∧ V.cell? ⟨f, 3, none⟩ = some (Iv a.tries) ∧ V.cell? ⟨f, 4, none⟩ = some (.slice av a.poi.length cv) ∧ V.cell? ⟨fi, 0, none⟩ = some (.slice ai a.inb.length ci)) (by kernel_rfl) S0 (fun hHeld => ?_)
 refine wpAnyH_take (i := 0) (v := ?v0) rfl (by kernel_rfl) (by kernel_rfl) (by kernel_rfl) (fun _ _ _ h => h) (Or.inl ⟨by rfl, ?hy0⟩) (by assumption) ?rest0
 case hy0 => (intro w hSw; (try dsimp only at hSw); first | (go_simp; done) | (go_simp; with_reducible rfl))
 try simp only [Act.put, List.setIfInBounds_toArray]
 refine wpAnyH_take (i := 1) (v := ?v1) rfl (by kernel_rfl) (by kernel_rfl) (by kernel_rfl) (fun _ _ _ h => h) (Or.inl ⟨by rfl, ?hy1⟩) (by assumption) ?rest1
 case hy1 => (intro w hSw; (try dsimp only at hSw); first | (go_simp; done) | (go_simp; with_reducible rfl))
 try simp only [Act.put]
 refine wpAnyH_take (i := 2) (v := ?v2) rfl (by kernel_rfl) (by kernel_rfl) (by kernel_rfl) (fun _ _ _ h => h) (Or.inl ⟨by rfl, ?hy2⟩) (by assumption) ?rest2
 case hy2 => (intro w hSw; (try dsimp only at hSw); first | (go_simp; done) | (go_simp; with_reducible rfl))
 try simp only [Act.put]
 refine wpAnyH_take (i := 3) (v := ?v3) rfl (by kernel_rfl) (by kernel_rfl) (by kernel_rfl) (fun _ _ _ h => h) (Or.inl ⟨by rfl, ?hy3⟩) (by assumption) ?rest3
 case hy3 => (intro w hSw; (try dsimp only at hSw); first | (go_simp; done) | (go_simp; with_reducible rfl))
 try simp only [Act.put]
 refine wpAnyH_take (i := 4) (v := ?v4) rfl (by kernel_rfl) (by kernel_rfl) (by kernel_rfl) (fun _ _ _ h => h) (Or.inl ⟨by rfl, ?hy4⟩) (by assumption) ?rest4
 case hy4 => (intro w hSw; (try dsimp only at hSw); first | (go_simp; done) | (go_simp; with_reducible rfl))
 try simp only [Act.put]
 refine wpAnyH_take (i := 5) (v := ?v5) rfl (by kernel_rfl) (by kernel_rfl) (by kernel_rfl) (fun _ _ _ h => h) (Or.inl ⟨by rfl, ?hy5⟩) (by assumption) ?rest5
 case hy5 => (intro w hSw; (try dsimp only at hSw); first | (go_simp; done) | (go_simp; with_reducible rfl))
 try simp only [Act.put]
 refine wpAnyH_take (i := 6) (v := ?v6) rfl (by kernel_rfl) (by kernel_rfl) (by kernel_rfl) (fun _ _ _ h => h) (Or.inl ⟨by rfl, ?hy6⟩) (by assumption) ?rest6
 case hy6 => (intro w hSw; (try dsimp only at hSw); first | (go_simp; done) | (go_simp; with_reducible rfl))
 try simp only [Act.put]
 refine wpAnyH_take (i := 7) (v := ?v7) rfl (by kernel_rfl) (by kernel_rfl) (by kernel_rfl) (fun _ _ _ h => h) (Or.inl ⟨by rfl, ?hy7⟩) (by assumption) ?rest7
 case hy7 => (intro w hSw; (try dsimp only at hSw); first | (go_simp; done) | (go_simp; with_reducible rfl))
 try simp only [Act.put]
 refine wpAnyH_take (i := 8) (v := ?v8) rfl (by kernel_rfl) (by kernel_rfl) (by kernel_rfl) (fun _ _ _ h => h) (Or.inl ⟨by rfl, ?hy8⟩) (by assumption) ?rest8
 case hy8 => (intro w hSw; (try dsimp only at hSw); first | (go_simp; done) | (go_simp; with_reducible rfl))
 try simp only [Act.put]
 refine wpAnyH_take (i := 9) (v := ?v9) rfl (by kernel_rfl) (by kernel_rfl) (by kernel_rfl) (fun _ _ _ h => h) (Or.inl ⟨by rfl, ?hy9⟩) (by assumption) ?rest9
 case hy9 => (intro w hSw; (try dsimp only at hSw); first | (go_simp; done) | (go_simp; with_reducible rfl))
 try simp only [Act.put]
 refine wpAnyH_take (i := 10) (v := ?v10) rfl (by kernel_rfl) (by kernel_rfl) (by kernel_rfl) (fun _ _ _ h => h) (Or.inl ⟨by rfl, ?hy10⟩) (by assumption) ?rest10
 case hy10 => (intro w hSw; (try dsimp only at hSw); first | (go_simp; done) | (go_simp; with_reducible rfl))
 try simp only [Act.put]
 refine wpAnyH_take (i := 11) (v := ?v11) rfl (by kernel_rfl) (by kernel_rfl) (by kernel_rfl) (fun _ _ _ h => h) (Or.inl ⟨by rfl, ?hy11⟩) (by assumption) ?rest11
 case hy11 => (intro w hSw; (try dsimp only at hSw); first | (go_simp; done) | (go_simp; with_reducible rfl))
 try simp only [Act.put]
 refine wpAnyH_take (i := 12) (v := ?v12) rfl (by kernel_rfl) (by kernel_rfl) (by kernel_rfl) (fun _ _ _ h => h) (Or.inl ⟨by rfl, ?hy12⟩) (by assumption) ?rest12
 case hy12 => (intro w hSw; (try dsimp only at hSw); first | (go_simp; done) | (go_simp; with_reducible rfl))
 try simp only [Act.put]
 refine wpAnyH_take (i := 13) (v := ?v13) rfl (by kernel_rfl) (by kernel_rfl) (by kernel_rfl) (fun _ _ _ h => h) (Or.inl ⟨by rfl, ?hy13⟩) (by assumption) ?rest13
 case hy13 => (intro w hSw; (try dsimp only at hSw); first | (go_simp; done) | (go_simp; with_reducible rfl))
 try simp only [Act.put]
 refine wpAnyH_take (i := 14) (v := ?v14) rfl (by kernel_rfl) (by kernel_rfl) (by kernel_rfl) (fun _ _ _ h => h) (Or.inl ⟨by rfl, ?hy14⟩) (by assumption) ?rest14
 case hy14 => (intro w hSw; (try dsimp only at hSw); first | (go_simp; done) | (go_simp; with_reducible rfl))
 try simp only [Act.put]
 refine wpAnyH_take (i := 15) (v := ?v15) rfl (by kernel_rfl) (by kernel_rfl) (by kernel_rfl) (fun _ _ _ h => h) (Or.inl ⟨by rfl, ?hy15⟩) (by assumption) ?rest15
 case hy15 => (intro w hSw; (try dsimp only at hSw); first | (go_simp; done) | (go_simp; with_reducible rfl))
 try simp only [Act.put]
 refine wpAnyH_ready (rs := [16]) (by kernel_rfl) (by simp) ?_
 refine AllReadyH.cons rfl (fun K hK => ?_) AllReadyH.nil
 (go_simp; go_at_call 37; refine (HC37.out _ KD.out).mono ?_; rintro e w1 ⟨rfl, k1⟩; have K1 : Hid (Kept [] W0 w1) := Hid.mk (KD.out.then k1); clear k1)
 refine hK.out _ _ (HS.out _ K1.out) (fun hHeld => ?_)
 clear hK K
 try simp only [Act.put, List.setIfInBounds_toArray, List.set_cons_zero, List.set_cons_succ]
 refine wpAnyH_take (i := 17) (v := ?v16) rfl (by kernel_rfl) (by kernel_rfl) (by kernel_rfl) (fun _ _ _ h => h) (Or.inl ⟨by rfl, ?hy16⟩) (by assumption) ?rest16
 case hy16 => (intro w hSw; (try dsimp only at hSw); first | (go_simp; done) | (go_simp; with_reducible rfl))
 try simp only [Act.put, List.setIfInBounds_toArray]
 refine wpAnyH_take (i := 18) (v := ?v17) rfl (by kernel_rfl) (by kernel_rfl) (by kernel_rfl) (fun _ _ _ h => h) (Or.inl ⟨by rfl, ?hy17⟩) (by assumption) ?rest17
 case hy17 => (intro w hSw; (try dsimp only at hSw); first | (go_simp; done) | (go_simp; with_reducible rfl))
 try simp only [Act.put]
 refine wpAnyH_take (i := 19) (v := ?v18) rfl (by kernel_rfl) (by kernel_rfl) (by kernel_rfl) (fun _ _ _ h => h) (Or.inl ⟨by rfl, ?hy18⟩) (by assumption) ?rest18
 case hy18 => (intro w hSw; (try dsimp only at hSw); first | (go_simp; done) | (go_simp; with_reducible rfl))
 try simp only [Act.put]
 refine wpAnyH_ready (rs := [20]) (by kernel_rfl) (by simp) ?_
 refine AllReadyH.cons rfl (fun K hK => ?_) AllReadyH.nil
 (go_simp; go_at_call 19; refine (HC19.out _ K1.out).mono ?_; rintro e w2 ⟨rfl, k2⟩; have K2 : Hid (Kept [] W0 w2) := Hid.mk (K1.out.then k2); clear k2)
 refine hK.out _ _ (HS.out _ K2.out) (fun hHeld => ?_)
 clear hK K
 try simp only [Act.put, List.setIfInBounds_toArray, List.set_cons_zero, List.set_cons_succ]
 refine wpAnyH_take (i := 21) (v := ?v19) rfl (by kernel_rfl) (by kernel_rfl) (by kernel_rfl) (fun _ _ _ h => h) (Or.inl ⟨by rfl, ?hy19⟩) (by assumption) ?rest19
 case hy19 => (intro w hSw; (try dsimp only at hSw); first | (go_simp; done) | (go_simp; with_reducible rfl))
 try simp only [Act.put, List.setIfInBounds_toArray]
 refine wpAnyH_take (i := 22) (v := ?v20) rfl (by kernel_rfl) (by kernel_rfl) (by kernel_rfl) (fun _ _ _ h => h) (Or.inl ⟨by rfl, ?hy20⟩) (by assumption) ?rest20
 case hy20 => (intro w hSw; (try dsimp only at hSw); first | (go_simp; done) | (go_simp; with_reducible rfl))
 try simp only [Act.put]
 refine wpAnyH_take (i := 23) (v := ?v21) rfl (by kernel_rfl) (by kernel_rfl) (by kernel_rfl) (fun _ _ _ h => h) (Or.inl ⟨by rfl, ?hy21⟩) (by assumption) ?rest21
 case hy21 => (intro w hSw; (try dsimp only at hSw); first | (go_simp; done) | (go_simp; with_reducible rfl))
 try simp only [Act.put]
 refine wpAnyH_take (i := 24) (v := undef) rfl (by kernel_rfl) (by kernel_rfl) (by kernel_rfl) (fun _ _ _ h => h) (Or.inr ⟨by kernel_rfl, rfl⟩) (by assumption) ?_
 try simp only [Act.put]
 refine wpAnyH_take (i := 25) (v := undef) rfl (by kernel_rfl) (by kernel_rfl) (by kernel_rfl) (fun _ _ _ h => h) (Or.inr ⟨by kernel_rfl, rfl⟩) (by assumption) ?_
 try simp only [Act.put]
 refine wpAnyH_take (i := 26) (v := ?v22) rfl (by kernel_rfl) (by kernel_rfl) (by kernel_rfl) (fun _ _ _ h => h) (Or.inl ⟨by rfl, ?hy22⟩) (by assumption) ?rest22
 case hy22 => (intro w hSw; (try dsimp only at hSw); first | (go_simp; done) | (go_simp; with_reducible rfl))
 try simp only [Act.put]
 refine wpAnyH_done (by kernel_rfl) ?_ _
 refine NoPanic.normal ?_
 have hbx := HB1.out w2 K2.out
 obtain ⟨g0, g1, g2, g3, g4⟩ := free5 hbx
 obtain ⟨x0, x1, x2, x3, x4⟩ := cells5 hbx
 clear hbx S0
 go_wp2_with fail
 obtain ⟨W8, e8, h8, hE⟩ := HEND.out w2 1 K2.out
 rw [e8]
 refine bodyPost_ret (results_tcu (t := 6) (p := 7) (u := 8) (ty := 48) rfl _ _ (w.heap.size + 1) 48 _ (0, 0) _ rfl h8 Tryz.underlying48 rfl (by kernel_rfl) _ _ rfl rfl) rfl ?_
 rw [HT.out]
 exact hE
set_option maxHeartbeats 8000000 in
theorem rtake12_d {w0 w : World} {f fj fi fo B V : Nat} {a : Ac} {nv cv : Value} {pg : Pg} {now : Int} (h : AF w0 w f fj fi fo a) (hs0 : w0.heap.size ≤ w.heap.size) (hL : Lim a B V) (hB : B ≤ 1000000) (hV : V ≤ 1000000)
  (hP : IsP_N w nv cv pg) (hnm : ∀ s ∈ pg.names, s.length ≤ 9223372036854775807) (hO : OkP pg) (hn : I64 now) (hs : soundA a.tries a.inb.length a.poi = true) (hf : formedP pg = true) (hw : ¬ 0 ≤ now) :
  Calls Tryz.prog 12 #[.agg #[nv, cv], Ptr f, .int .i64 now] w (TkF w0 w (takeA pg a now)) := by
 obtain ⟨na, nc, ca, cc, rfl, rfl, -, -⟩ := hP.form
 obtain ⟨W0, e0, k0, hz0, hb0, hb1⟩ := box2 w (.cells #[.slice na pg.names.length nc, .slice ca pg.code.length cc] 25) (.cells #[.bool false, .bool false, .int .i64 0, .int .i64 0, .slice none 0 0] 48)
 have HK := Hid.mk k0
 have HA := Hid.mk (h.kept0 k0)
 have HPg := Hid.mk (hP.keep k0)
 have HX := Hid.mk (And.intro hnm (And.intro hO hn))
 have HL := Hid.mk (And.intro hL (And.intro hB hV))
 have HLT : Hid (w0.heap.size ≤ w.heap.size ∧ W0.heap.size = w.heap.size + 2) := Hid.mk ⟨hs0, hz0⟩
 obtain ⟨v, hfa, hpo, hg⟩ := h.kept0 k0
 obtain ⟨av, cv, rfl⟩ := hpo.form
 obtain ⟨ui, qs, hI, hq⟩ := hfa.i
 obtain ⟨ai, ci, rfl, -, -⟩ := hI.own.row.form
 have hql : qs.length = a.inb.length := by rw [← hq, List.length_map]
 rw [hql] at hI
 have HFA := Hid.mk hfa
 have HII := Hid.mk hI
 have HS : Hid (∀ W, Kept [] W0 W → (W.cell? ⟨w.heap.size, 0, none⟩ = some (.slice na pg.names.length nc) ∧ W.cell? ⟨w.heap.size, 1, none⟩ = some (.slice ca pg.code.length cc)) ∧ W.cell? ⟨f, 1, none⟩ = some (Ptr fi) ∧ W.cell? ⟨f, 3, none⟩ = some (Iv a.tries) ∧ W.cell? ⟨f, 4, none⟩ = some (.slice av a.poi.length cv) ∧ W.cell? ⟨fi, 0, none⟩ = some (.slice ai a.inb.length ci)) := Hid.mk fun W k => by
  obtain ⟨d0, d1, d2, d3, d4⟩ := (HFA.out.kept0 k).cells
  exact ⟨cells2_N (k.keeps hb0 (by simp)), d1, d3, d4, cell_of_one (HII.out.kept0 k).box⟩
 have HC37 : Hid (∀ W, Kept [] W0 W → Calls Tryz.prog 37 #[Iv a.tries, .int .i64 (a.inb.length : Int), .slice av a.poi.length cv] W fun e w' => e = .returned (.bool (soundA a.tries a.inb.length a.poi)) ∧ Kept [] W w') := Hid.mk fun W k => by
  obtain ⟨ms, m1, m2, m3⟩ := (hpo.kept0 k).at
  have := sound29 a.tries a.inb.length m1
  rwa [m3] at this
 have HC19 : Hid (∀ W, Kept [] W0 W → Calls Tryz.prog 19 #[.agg #[.slice na pg.names.length nc, .slice ca pg.code.length cc]] W fun e w' => e = .returned (.bool (formedP pg)) ∧ Kept [] W w') := Hid.mk fun W k => formed14_N (HPg.out.keep k) hnm
 have HB1 : Hid (∀ W, Kept [] W0 W → W.heap[w.heap.size + 1]? = some (.cells #[.bool false, .bool false, .int .i64 0, .int .i64 0, .slice none 0 0] 48 (0, 0))) := Hid.mk fun W k => k.keeps hb1 (by simp)
 have HEND : Hid (∀ (Wx : World) (c : Int), Kept [] W0 Wx → ∃ W8, ((((Wx.setCell ⟨w.heap.size + 1, 0, none⟩ (.bool false)).setCell ⟨w.heap.size + 1, 1, none⟩ (.bool false)).setCell ⟨w.heap.size + 1, 2, none⟩ (.int .i64 0)).setCell ⟨w.heap.size + 1, 3, none⟩ (.int .i64 0)).setCell ⟨w.heap.size + 1, 4, none⟩ (.slice none 0 0) = W8 ∧ W8.heap[w.heap.size + 1]? = some (.cells #[.bool false, .bool false, .int .i64 0, .int .i64 0, .slice none 0 0] 48 (0, 0)) ∧
   TkF w0 w (a, ocN, c) (.returned (.tuple #[Ptr f, .agg #[.bool false, .bool false, .int .i64 0, .int .i64 0, .slice none 0 0], .int .i64 c])) W8) := Hid.mk fun Wx c k => by
  obtain ⟨W8, e8, k8, h8, -⟩ := put5 (HB1.out Wx k) (.bool false) (.bool false) (.int .i64 0) (.int .i64 0) (.slice none 0 0)
  refine ⟨W8, e8, h8, f, fj, fi, fo, _, rfl, isOc_nil _ _ _ _ 0, ?_, ((HK.out.trans k (by simp))).trans k8 (fun x hx => .inr (by simp at hx; omega))⟩
  obtain ⟨v, q1, q2, q3⟩ := HA.out.kept0 k
  have T2 := TT.one (HB1.out Wx k) (w0 := w0) (by have := HLT.out.1; omega) k8
  exact ⟨v, q1.turn T2 (by decide), q2.turn T2 (by decide) (by decide), q3⟩
 have S0 := HS.out _ (Kept.refl _ _).drew
 have KD : Hid (Kept [] W0 W0.drew) := Hid.mk (Kept.refl [] W0).drew
 clear h hP hnm hO hn hL hB hV k0 hb0 hb1 hz0 hs0 hfa hpo hg hI hq
 clear hql
 have hT : takeA pg a now = (a, ocN, 1) := by unfold takeA; rw [if_neg (fun h => hw h.2.2)]
 rw [hs] at HC37
 rw [hf] at HC19
 have HT := Hid.mk hT
 have hwI : now < 0 := by omega
 have hwD : decide (now < 0) = true := by simpa using hwI
 clear hT hs hf hw
 go_enter Tryz.func12, Tryz.ntmps12
 go_wp2_with fail
 go_region_held3 (fun W => (W.cell? ⟨w.heap.size, 0, none⟩ = some (.slice na pg.names.length nc) ∧ W.cell? ⟨w.heap.size, 1, none⟩ = some (.slice ca pg.code.length cc)) ∧ W.cell? ⟨f, 1, none⟩ = some (Ptr fi) ∧ W.cell? ⟨f, 3, none⟩ = some (Iv a.tries) ∧ W.cell? ⟨f, 4, none⟩ = some (.slice av a.poi.length cv) ∧ W.cell? ⟨fi, 0, none⟩ = some (.slice ai a.inb.length ci)) (first | with_reducible exact S0 | with_reducible exact HS.out _ K2.out | with_reducible exact HS.out _ K1.out) (first | (go_at_call 19; refine (HC19.out _ K1.out).mono ?_; rintro e w2 ⟨rfl, k2⟩; have K2 : Hid (Kept [] W0 w2) := Hid.mk (K1.out.then k2); clear k2) | (go_at_call 37; refine (HC37.out _ KD.out).mono ?_; rintro e w1 ⟨rfl, k1⟩; have K1 : Hid (Kept [] W0 w1) := Hid.mk (KD.out.then k1); clear k1))
 have hbx := HB1.out w2 K2.out
 obtain ⟨g0, g1, g2, g3, g4⟩ := free5 hbx
 obtain ⟨x0, x1, x2, x3, x4⟩ := cells5 hbx
 clear hbx S0
 go_wp2_with fail
 obtain ⟨W8, e8, h8, hE⟩ := HEND.out w2 1 K2.out
 rw [e8]
 refine bodyPost_ret (results_tcu (t := 6) (p := 7) (u := 8) (ty := 48) rfl _ _ (w.heap.size + 1) 48 _ (0, 0) _ rfl h8 Tryz.underlying48 rfl (by kernel_rfl) _ _ rfl rfl) rfl ?_
 rw [HT.out]
 exact hE
end Go.Proofs.YtngnenbidpojeaaGreatDoor
