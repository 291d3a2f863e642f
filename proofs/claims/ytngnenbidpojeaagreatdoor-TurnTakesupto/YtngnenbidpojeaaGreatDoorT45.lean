import Derived.Test.YtngnenbidpojeaaGreatDoorT14
import Derived.Test.YtngnenbidpojeaaGreatDoorT25
import Derived.Test.YtngnenbidpojeaaGreatDoorT31
import Derived.Test.YtngnenbidpojeaaGreatDoorT32
import Derived.Test.YtngnenbidpojeaaGreatDoorT40
import Derived.Test.YtngnenbidpojeaaGreatDoorT41
import Derived.Test.YtngnenbidpojeaaGreatDoorT42
import Derived.Test.YtngnenbidpojeaaGreatDoorT43
import Derived.Test.YtngnenbidpojeaaGreatDoorT44
/-
 The document's turn: of an actor to whom nobody wrote.
-/
namespace Go.Proofs.YtngnenbidpojeaaGreatDoor
set_option maxRecDepth 100000
open Go.RowKit
set_option linter.unusedVariables false
set_option maxHeartbeats 8000000 in
theorem rtake12_e {w0 w : World} {f fj fi fo B V : Nat} {a : Ac} {nv cv : Value} {pg : Pg} {now : Int} (h : AF w0 w f fj fi fo a) (hs0 : w0.heap.size ≤ w.heap.size) (hL : Lim a B V) (hB : B ≤ 1000000) (hV : V ≤ 1000000)
  (hP : IsP_N w nv cv pg) (hnm : ∀ s ∈ pg.names, s.length ≤ 9223372036854775807) (hO : OkP pg) (hn : I64 now) (hs : soundA a.tries a.inb.length a.poi = true) (hf : formedP pg = true) (hw : 0 ≤ now) (hi : a.inb = []) :
  Calls Tryz.prog 12 #[.agg #[nv, cv], Ptr f, .int .i64 now] w (TkF w0 w (takeA pg a now)) := by
 obtain ⟨na, nc, ca, cc, rfl, rfl, -, -⟩ := hP.form
 obtain ⟨W0, e0, k0, hz0, hb0, hb1⟩ := box2 w (.cells #[.slice na pg.names.length nc, .slice ca pg.code.length cc] 25) (.cells #[.bool false, .bool false, .int .i64 0, .int .i64 0, .slice none 0 0] 48)
 have HK := Hid.mk k0
 have HA := Hid.mk (h.kept0 k0)
 have HPg := Hid.mk (hP.keep k0)
 have HX := Hid.mk (And.intro hnm (And.intro hO hn))
 have HL := Hid.mk (And.intro hL (And.intro hB hV))
 have HLT : Hid (w0.heap.size ≤ w.heap.size ∧ W0.heap.size = w.heap.size + 2) := Hid.mk ⟨hs0, hz0⟩
 obtain ⟨v, hfa, hpo, hg⟩ := h.kept0 k0
 obtain ⟨av, cv, rfl⟩ := hpo.form
 obtain ⟨ui, qs, hI, hq⟩ := hfa.i
 obtain ⟨ai, ci, rfl, -, -⟩ := hI.own.row.form
 have hql : qs.length = a.inb.length := by rw [← hq, List.length_map]
 rw [hql] at hI
 have HFA := Hid.mk hfa
 have HII := Hid.mk hI
 have HS : Hid (∀ W, Kept [] W0 W → (W.cell? ⟨w.heap.size, 0, none⟩ = some (.slice na pg.names.length nc) ∧ W.cell? ⟨w.heap.size, 1, none⟩ = some (.slice ca pg.code.length cc)) ∧ W.cell? ⟨f, 1, none⟩ = some (Ptr fi) ∧ W.cell? ⟨f, 3, none⟩ = some (Iv a.tries) ∧ W.cell? ⟨f, 4, none⟩ = some (.slice av a.poi.length cv) ∧ W.cell? ⟨fi, 0, none⟩ = some (.slice ai a.inb.length ci)) := Hid.mk fun W k => by
  obtain ⟨d0, d1, d2, d3, d4⟩ := (HFA.out.kept0 k).cells
  exact ⟨cells2_N (k.keeps hb0 (by simp)), d1, d3, d4, cell_of_one (HII.out.kept0 k).box⟩
 have HC37 : Hid (∀ W, Kept [] W0 W → Calls Tryz.prog 37 #[Iv a.tries, .int .i64 (a.inb.length : Int), .slice av a.poi.length cv] W fun e w' => e = .returned (.bool (soundA a.tries a.inb.length a.poi)) ∧ Kept [] W w') := Hid.mk fun W k => by
  obtain ⟨ms, m1, m2, m3⟩ := (hpo.kept0 k).at
  have := sound29 a.tries a.inb.length m1
  rwa [m3] at this
 have HC19 : Hid (∀ W, Kept [] W0 W → Calls Tryz.prog 19 #[.agg #[.slice na pg.names.length nc, .slice ca pg.code.length cc]] W fun e w' => e = .returned (.bool (formedP pg)) ∧ Kept [] W w') := Hid.mk fun W k => formed14_N (HPg.out.keep k) hnm
 have HB1 : Hid (∀ W, Kept [] W0 W → W.heap[w.heap.size + 1]? = some (.cells #[.bool false, .bool false, .int .i64 0, .int .i64 0, .slice none 0 0] 48 (0, 0))) := Hid.mk fun W k => k.keeps hb1 (by simp)
 have HEND : Hid (∀ (Wx : World) (c : Int), Kept [] W0 Wx → ∃ W8, ((((Wx.setCell ⟨w.heap.size + 1, 0, none⟩ (.bool false)).setCell ⟨w.heap.size + 1, 1, none⟩ (.bool false)).setCell ⟨w.heap.size + 1, 2, none⟩ (.int .i64 0)).setCell ⟨w.heap.size + 1, 3, none⟩ (.int .i64 0)).setCell ⟨w.heap.size + 1, 4, none⟩ (.slice none 0 0) = W8 ∧ W8.heap[w.heap.size + 1]? = some (.cells #[.bool false, .bool false, .int .i64 0, .int .i64 0, .slice none 0 0] 48 (0, 0)) ∧
   TkF w0 w (a, ocN, c) (.returned (.tuple #[Ptr f, .agg #[.bool false, .bool false, .int .i64 0, .int .i64 0, .slice none 0 0], .int .i64 c])) W8) := Hid.mk fun Wx c k => by
  obtain ⟨W8, e8, k8, h8, -⟩ := put5 (HB1.out Wx k) (.bool false) (.bool false) (.int .i64 0) (.int .i64 0) (.slice none 0 0)
  refine ⟨W8, e8, h8, f, fj, fi, fo, _, rfl, isOc_nil _ _ _ _ 0, ?_, ((HK.out.trans k (by simp))).trans k8 (fun x hx => .inr (by simp at hx; omega))⟩
  obtain ⟨v, q1, q2, q3⟩ := HA.out.kept0 k
  have T2 := TT.one (HB1.out Wx k) (w0 := w0) (by have := HLT.out.1; omega) k8
  exact ⟨v, q1.turn T2 (by decide), q2.turn T2 (by decide) (by decide), q3⟩
 have S0 := HS.out _ (Kept.refl _ _).drew
 have KD : Hid (Kept [] W0 W0.drew) := Hid.mk (Kept.refl [] W0).drew
 clear h hP hnm hO hn hL hB hV k0 hb0 hb1 hz0 hs0 hfa hpo hg hI hq
 clear hql
 have hT : takeA pg a now = (a, ocN, 5) := by
  unfold takeA
  rw [if_pos ⟨hs, hf, hw⟩, hi]
 rw [hs] at HC37
 rw [hf] at HC19
 have HT := Hid.mk hT
 have hlI : ((a.inb.length : Int) == 0) = true := by rw [hi]; rfl
 have hwI : (now < 0) = False := eq_false (by omega)
 clear hT hs hf hi
 generalize a.inb.length = n at *
 go_enter Tryz.func12, Tryz.ntmps12
 go_wp2_with fail
 go_region_held3 (fun W => (W.cell? ⟨w.heap.size, 0, none⟩ = some (.slice na pg.names.length nc) ∧ W.cell? ⟨w.heap.size, 1, none⟩ = some (.slice ca pg.code.length cc)) ∧ W.cell? ⟨f, 1, none⟩ = some (Ptr fi) ∧ W.cell? ⟨f, 3, none⟩ = some (Iv a.tries) ∧ W.cell? ⟨f, 4, none⟩ = some (.slice av a.poi.length cv) ∧ W.cell? ⟨fi, 0, none⟩ = some (.slice ai n ci)) (first | with_reducible exact S0 | with_reducible exact HS.out _ K2.out | with_reducible exact HS.out _ K1.out) (first | (go_at_call 19; refine (HC19.out _ K1.out).mono ?_; rintro e w2 ⟨rfl, k2⟩; have K2 : Hid (Kept [] W0 w2) := Hid.mk (K1.out.then k2); clear k2) | (go_at_call 37; refine (HC37.out _ KD.out).mono ?_; rintro e w1 ⟨rfl, k1⟩; have K1 : Hid (Kept [] W0 w1) := Hid.mk (KD.out.then k1); clear k1))
 obtain ⟨-, s1, s3, s4, s0⟩ := HS.out w2 K2.out
 have hbx := HB1.out w2 K2.out
 obtain ⟨g0, g1, g2, g3, g4⟩ := free5 hbx
 obtain ⟨x0, x1, x2, x3, x4⟩ := cells5 hbx
 clear hbx S0
 go_wp2_with fail
 obtain ⟨W8, e8, h8, hE⟩ := HEND.out w2 5 K2.out
 rw [e8]
 refine bodyPost_ret (results_tcu (t := 6) (p := 7) (u := 8) (ty := 48) rfl _ _ (w.heap.size + 1) 48 _ (0, 0) _ rfl h8 Tryz.underlying48 rfl (by kernel_rfl) _ _ rfl rfl) rfl ?_
 rw [HT.out]
 exact hE
theorem rtake12 {w0 w : World} {f fj fi fo B V : Nat} {a : Ac} {nv cv : Value} {pg : Pg} {now : Int} (h : AF w0 w f fj fi fo a) (hs0 : w0.heap.size ≤ w.heap.size) (hL : Lim a B V) (hB : B ≤ 1000000) (hV : V ≤ 1000000)
  (hP : IsP_N w nv cv pg) (hnm : ∀ s ∈ pg.names, s.length ≤ 9223372036854775807) (hO : OkP pg) (hn : I64 now) :
  Calls Tryz.prog 12 #[.agg #[nv, cv], Ptr f, .int .i64 now] w (TkF w0 w (takeA pg a now)) := by
 cases hs : soundA a.tries a.inb.length a.poi with
 | false => exact rtake12_b h hs0 hL hB hV hP hnm hO hn hs
 | true =>
  by_cases hf : formedP pg = true
  ·by_cases hw : 0 ≤ now
   ·cases hi : a.inb with
    | nil => exact rtake12_e h hs0 hL hB hV hP hnm hO hn hs hf hw hi
    | cons x t => exact rtake12_a h hs0 hL hB hV hP hnm hO hn hs hf hw hi
   ·exact rtake12_d h hs0 hL hB hV hP hnm hO hn hs hf hw
  ·exact rtake12_c h hs0 hL hB hV hP hnm hO hn hs hf
theorem results_one {P : Program} {fn : Func} {p : Tmp} {ty : TypeId} (h : fn.results = #[.cell p ty]) (tmps : Array Value) (w : World) (g : Nat) (tt : TypeId) (cs : Array Value) (fr : Nat × Nat) (d : TypeDesc)
  (hp : tmps.getD p undef = .pointer (some ⟨g, 0, none⟩)) (hg : w.heap[g]? = some (.cells cs tt fr)) (hu : P.underlying ty = some d) (hd : (match d with | .struct _ | .array _ _ => true | _ => false) = true) (hi : (P.info? ty).map (·.size) = some cs.size) :
  (results fn tmps).run P w = .ok (.agg cs) w := by
 have hp' : tmps[p]?.getD undef = .pointer (some ⟨g, 0, none⟩) := by simpa using hp
 simp [results, h, hp', asAddr, run_loadVar_row w g tt ty cs fr d hg hu hd hi]
section
variable {w : World}
set_option maxHeartbeats 4000000 in
theorem sameOut13 {n n' : Nat} {v v' : Value} {o : Oc} (h : IsOc n w v o) (h' : IsOc n' w v' o) : Calls Tryz.prog 13 #[v, v'] w fun e w' => e = .returned (.bool true) ∧ Kept [] w w' := by
 obtain ⟨tv, rfl, q1, -⟩ := h
 obtain ⟨tv', rfl, q1', -⟩ := h'
 obtain ⟨a, c, rfl, -, -⟩ := q1.form
 obtain ⟨a', c', rfl, -, -⟩ := q1'.form
 rw [rowT_length] at *
 obtain ⟨W0, e0, k0, hz0, hb0, hb1⟩ := box2 w (.cells #[.bool o.done, .bool o.poi, .int .i64 o.failed, .int .i64 (o.steps : Int), .slice a o.tm.length c] 48) (.cells #[.bool o.done, .bool o.poi, .int .i64 o.failed, .int .i64 (o.steps : Int), .slice a' o.tm.length c'] 48)
 have HC := Hid.mk (same24 (q1.keep k0) (q1'.keep k0))
 have HK := Hid.mk k0
 obtain ⟨x0, x1, x2, x3, x4⟩ := cells5 hb0
 obtain ⟨y0, y1, y2, y3, y4⟩ := cells5 hb1
 show Calls Tryz.prog 13 #[.agg #[.bool o.done, .bool o.poi, .int .i64 o.failed, .int .i64 (o.steps : Int), .slice a o.tm.length c], .agg #[.bool o.done, .bool o.poi, .int .i64 o.failed, .int .i64 (o.steps : Int), .slice a' o.tm.length c']] w _
 generalize o.tm.length = m at *
 generalize o.done = d at *
 generalize o.poi = p at *
 generalize o.failed = f at *
 generalize o.steps = k at *
 clear q1 q1' k0 hz0 hb0 hb1
 go_enter Tryz.func13, Tryz.ntmps13
 go_wp2_with fail
 refine HC.out.mono ?_
 rintro e w1 ⟨rfl, k1⟩
 go_wp2_with fail
 go_ret
 exact ⟨rfl, HK.out.then k1⟩
set_option maxHeartbeats 4000000 in
theorem ours14 {n : Nat} {v : Value} {o : Oc} (h : IsOc n w v o) (hl : o.tm.length ≤ 900) : Calls Tryz.prog 14 #[v] w fun e w' => ∃ v', e = .returned v' ∧ IsOc w.heap.size w' v' o ∧ Kept [] w w' := by
 obtain ⟨tv, rfl, q1, -⟩ := h
 obtain ⟨a, c, rfl, -, -⟩ := q1.form
 rw [rowT_length] at *
 obtain ⟨W0, e0, k0, hz0, hb0, hb1⟩ := box2 w (.cells #[.bool o.done, .bool o.poi, .int .i64 o.failed, .int .i64 (o.steps : Int), .slice a o.tm.length c] 39) (.cells #[.bool false, .bool false, .int .i64 0, .int .i64 0, .slice none 0 0] 48)
 have HC : Hid (∀ W, Kept [] W0 W → Calls Tryz.prog 43 #[.slice a o.tm.length c] W fun e w' => ∃ a' c', e = .returned (.slice a' o.tm.length c') ∧ Out 193 5 W w' (.slice a' o.tm.length c') (rowT o.tm)) := Hid.mk fun W k => timers25 (q1.keep (k0.then k)) hl
 have HK := Hid.mk k0
 have HB1 := Hid.mk hb1
 have HS : Hid (∀ V, Kept [] W0 V → V.cell? ⟨w.heap.size, 0, none⟩ = some (.bool o.done) ∧ V.cell? ⟨w.heap.size, 1, none⟩ = some (.bool o.poi) ∧ V.cell? ⟨w.heap.size, 2, none⟩ = some (.int .i64 o.failed) ∧ V.cell? ⟨w.heap.size, 3, none⟩ = some (.int .i64 (o.steps : Int)) ∧ V.cell? ⟨w.heap.size, 4, none⟩ = some (.slice a o.tm.length c)) := Hid.mk fun V k => cells5 (k.keeps hb0 (by simp))
 have HP : Hid (∀ V a' c', Kept [] W0 V → Out 193 5 W0.drew V (.slice a' o.tm.length c') (rowT o.tm) → ∃ W8, ((((V.setCell ⟨w.heap.size + 1, 0, none⟩ (.bool o.done)).setCell ⟨w.heap.size + 1, 1, none⟩ (.bool o.poi)).setCell ⟨w.heap.size + 1, 2, none⟩ (.int .i64 o.failed)).setCell ⟨w.heap.size + 1, 3, none⟩ (.int .i64 (o.steps : Int))).setCell ⟨w.heap.size + 1, 4, none⟩ (.slice a' o.tm.length c') = W8 ∧ W8.heap[w.heap.size + 1]? = some (.cells #[.bool o.done, .bool o.poi, .int .i64 o.failed, .int .i64 (o.steps : Int), .slice a' o.tm.length c'] 48 (0, 0)) ∧ IsOc w.heap.size W8 (.agg #[.bool o.done, .bool o.poi, .int .i64 o.failed, .int .i64 (o.steps : Int), .slice a' o.tm.length c']) o ∧ Kept [] w W8 ∧ W8.cell? ⟨w.heap.size, 0, none⟩ = some (.bool o.done) ∧ W8.cell? ⟨w.heap.size, 1, none⟩ = some (.bool o.poi) ∧ W8.cell? ⟨w.heap.size, 2, none⟩ = some (.int .i64 o.failed) ∧ W8.cell? ⟨w.heap.size, 3, none⟩ = some (.int .i64 (o.steps : Int)) ∧ W8.cell? ⟨w.heap.size, 4, none⟩ = some (.slice a o.tm.length c)) := Hid.mk fun V a' c' k hO => by
  obtain ⟨W8, e8, k8, h8, -⟩ := put5 (k.keeps hb1 (by simp)) (.bool o.done) (.bool o.poi) (.int .i64 o.failed) (.int .i64 (o.steps : Int)) (.slice a' o.tm.length c')
  have hz : W0.drew.heap.size = w.heap.size + 2 := hz0
  refine ⟨W8, e8, h8, ⟨_, rfl, (hO.own.reads (wideT _)).kept k8 (fun g hg hm => by have := hO.new g hg; simp at hm; omega), fun g hg => by have := hO.new g hg; omega⟩, (k0.then k).trans k8 (fun x hx => .inr (by simp at hx; omega)), ?_⟩
  exact cells5 (k8.keeps (k.keeps hb0 (by simp)) (by simp))
 have KD : Hid (Kept [] W0 W0.drew) := Hid.mk (Kept.refl [] W0).drew
 have S0 := HS.out _ KD.out
 show Calls Tryz.prog 14 #[.agg #[.bool o.done, .bool o.poi, .int .i64 o.failed, .int .i64 (o.steps : Int), .slice a o.tm.length c]] w _
 generalize o.tm.length = m at *
 clear q1 k0 hz0 hb0 hb1
 go_enter Tryz.func14, Tryz.ntmps14
 go_wp2_with fail
 go_region_held3 (fun V => V.cell? ⟨w.heap.size, 0, none⟩ = some (.bool o.done) ∧ V.cell? ⟨w.heap.size, 1, none⟩ = some (.bool o.poi) ∧ V.cell? ⟨w.heap.size, 2, none⟩ = some (.int .i64 o.failed) ∧ V.cell? ⟨w.heap.size, 3, none⟩ = some (.int .i64 (o.steps : Int)) ∧ V.cell? ⟨w.heap.size, 4, none⟩ = some (.slice a m c)) (first | with_reducible exact S0 | with_reducible exact S1 | with_reducible exact S8) (first | (go_at_call 43; refine (HC.out _ KD.out).mono ?_; rintro e w1 ⟨a', c', rfl, hO⟩; have K1 : Hid (Kept [] W0 w1) := Hid.mk (KD.out.then hO.kept); have S1 := HS.out _ K1.out; obtain ⟨W8, e8, h8, hoc, k8, S8⟩ := HP.out w1 a' c' K1.out hO; have HE := Hid.mk (And.intro h8 (And.intro hoc k8)); obtain ⟨g0, g1, g2, g3, g4⟩ := free5 (K1.out.keeps HB1.out (by simp)); obtain ⟨y0, y1, y2, y3, y4⟩ := cells5 (K1.out.keeps HB1.out (by simp)); clear hO h8 hoc k8))
 go_wp2_with fail
 refine bodyPost_ret (results_one (p := 2) (ty := 48) rfl _ _ (w.heap.size + 1) 48 _ (0, 0) _ rfl HE.out.1 Tryz.underlying48 rfl (by kernel_rfl)) rfl ?_
 exact ⟨_, rfl, HE.out.2.1, HE.out.2.2⟩
end
def PoiB (a : Ac) : Prop := a.poi.length ≤ 10000 ∧ ∀ x ∈ a.poi, x.args.length ≤ 10000
theorem takeA_poi {p : Pg} {a : Ac} {now : Int} (g : GoodP a) (h : PoiB a) : PoiB (takeA p a now).1 := by
 unfold takeA
 split
 ·rename_i hc
  split
  ·exact h
  ·rename_i x t hi
   unfold takeR
   split
   ·split
    ·exact h
    ·exact h
   ·split
    ·exact h
    ·split
     ·exact h
     ·have h8 := ((soundA_iff _ _ _).1 hc.1).2.2.2.1
      have hx := g.inb x (by rw [hi]; simp)
      refine ⟨by show (a.poi ++ [x]).length ≤ 10000; rw [List.length_append, List.length_singleton]; omega, fun y hy => ?_⟩
      have hy : y ∈ a.poi ++ [x] := hy
      rcases List.mem_append.1 hy with hy | hy
      ·exact h.2 y hy
      ·simp at hy
       subst hy
       have := (formed_le hx.2).2
       omega
 ·exact h
theorem takeA_tm {p : Pg} {a : Ac} {now : Int} (g : GoodP a) (hO : OkP p) (hn : I64 now) : (takeA p a now).2.1.tm.length ≤ 900 := by
 unfold takeA
 split
 ·split
  ·exact Nat.zero_le _
  ·rename_i x t hi
   have hF := resI_fit hO (g.inb x (by rw [hi]; simp)).1 hn g.j.st64
   unfold takeR
   split
   ·split
    ·exact Nat.zero_le _
    ·exact hF.tm
   ·split
    ·exact Nat.zero_le _
    ·split
     ·exact Nat.zero_le _
     ·exact Nat.zero_le _
 ·exact Nat.zero_le _
theorem AF.turnP {w0 w w' : World} {f fj fi fo p pj pi po : Nat} {a b : Ac} (h : AF w0 w f fj fi fo a) (hp : AP w0 w p pj pi po b) (k : Kept [p, pj, pi, po] w w') : AF w0 w' f fj fi fo a := by
 obtain ⟨v, h1, h2, h3⟩ := h
 obtain ⟨v', q1, -, -⟩ := hp
 have T := q1.tt k
 exact ⟨v, h1.turn T (by decide), h2.turn T (by decide) (by decide), h3⟩
section
variable {w : World}
set_option maxHeartbeats 8000000 in
theorem takes3 {v sv : Value} {p : Pg} {ls ps : List Lq} {ts : List (List UInt8)} {es : List Ep} {tr : Int} (hP : PgIn w v p) (hG : Glob w) (hS : StIn w sv ls ps ts es tr) (now : Int) (hn : I64 now) (tu : Nat) (htu : tu < 256) :
  Calls Tryz.prog 3 #[v, sv, .int .i64 now, .int .u8 (tu : Int)] w fun e w' => e = .returned (.bool true) ∧ Kept [] w w' := by
 obtain ⟨⟨v1, u1, rfl, hI⟩, hK, hC⟩ := hP
 have hO : OkP p := fun x hx => (hC x hx).2
 obtain ⟨av, cv, bv, dv, rfl, rfl, -, -⟩ := hI.form
 obtain ⟨⟨a1, n1, c1, a2, n2, c2, a3, n3, c3, x4, rfl, hl, hp, ht, he⟩, hsz, h64⟩ := hS
 obtain ⟨a4, c4, rfl, -, -⟩ := rowE_form he.1
 obtain ⟨W0, e0, k0, hz0, hb0, hb1⟩ := box2 w (.cells #[.slice av p.names.length cv, .slice bv p.code.length dv] 25) (.cells #[.slice a1 n1 c1, .slice a2 n2 c2, .slice a3 n3 c3, .slice a4 es.length c4, .int .i64 tr] 29)
 have HK0 := Hid.mk k0
 have HI := Hid.mk hI
 have HG := Hid.mk hG
 have HX := Hid.mk (And.intro hK (And.intro hO hn))
 have HS : Hid (∀ W, Kept [] W0 W → (W.cell? ⟨w.heap.size, 0, none⟩ = some (.slice av p.names.length cv) ∧ W.cell? ⟨w.heap.size, 1, none⟩ = some (.slice bv p.code.length dv)) ∧ W.cell? ⟨w.heap.size + 1, 0, none⟩ = some (.slice a1 n1 c1) ∧ W.cell? ⟨w.heap.size + 1, 1, none⟩ = some (.slice a2 n2 c2) ∧ W.cell? ⟨w.heap.size + 1, 2, none⟩ = some (.slice a3 n3 c3) ∧ W.cell? ⟨w.heap.size + 1, 3, none⟩ = some (.slice a4 es.length c4) ∧ W.cell? ⟨w.heap.size + 1, 4, none⟩ = some (.int .i64 tr)) := Hid.mk fun W k => ⟨cells2_N (k.keeps hb0 (by simp)), cells5 (k.keeps hb1 (by simp))⟩
 have HAw : Hid (∀ W, Kept [] W0 W → Calls Tryz.prog 7 #[] W fun e w' => e = .returned (.bool true) ∧ Kept [] W w') := Hid.mk fun W k => awake7 (hG.kept (k0.then k))
 have HFw : Hid (∀ W, Kept [] W0 W → Calls Tryz.prog 8 #[.agg #[.slice a1 n1 c1, .slice a2 n2 c2, .slice a3 n3 c3, .slice a4 es.length c4, .int .i64 tr], .agg #[.slice av p.names.length cv, .slice bv p.code.length dv]] W fun e w' => FewS ls ps ts es.length p e ∧ Kept [] W w') := Hid.mk fun W k =>
  few8 (hl.1.kept (k0.then k) (by simp)) (hp.1.kept (k0.then k) (by simp)) (ht.kept0 (k0.then k)) (he.kept (k0.then k)).1 hsz (hI.keep (k0.then k)) hK
 have hn1 := hl.1.bound.1
 have hn2 := hp.1.bound.1
 have hn3 := ht.bound.1
 have HOf : Hid (∀ W, Kept [] W0 W → wL ls + wL ps + wT ts < 10000 → es.length < 300 → Calls Tryz.prog 9 #[Sv [109, 101], .slice a1 n1 c1, .slice a3 n3 c3, .slice a4 es.length c4, .int .i64 tr, .slice a2 n2 c2] W fun e w' => ∃ P v u, e = .returned (.tuple #[Ptr P.p, Ptr P.f]) ∧ Both W w' P tr v tr u (ofA [109, 101] ls ts es tr (ps.map (·.x))) (ofA [109, 101] ls ts es tr (ps.map (·.x))) ∧ PoiO w' v (ps.map (·.x)) ∧ PoiO w' u (ps.map (·.x))) := Hid.mk fun W k h1 h2 => by
  have kk := k0.then k
  have m1 := len_le_wL ls
  have m2 := len_le_wL ps
  have m3 := len_le_wT ts
  exact of9 (by decide) ⟨hl.1.kept kk (by simp), hl.2.1.kept0 kk, hl.2.2⟩ (ht.kept0 kk) (he.kept kk) ⟨hp.1.kept kk (by simp), hp.2.1.kept0 kk, hp.2.2⟩ (by omega) (by omega) (by omega) (by omega) (fun t hm => by have := text_le_wT hm; omega) (fun q hm => by have := arg_le_wL hm; omega)
 have HTh : Hid (∀ W, Kept [] W0 W → p.names.length ≤ 1000 → p.code.length ≤ 1000 → Calls Tryz.prog 11 #[.agg #[.slice av p.names.length cv, .slice bv p.code.length dv]] W fun e w' => ∃ a' c' b' d', e = .returned (.agg #[.slice a' p.names.length c', .slice b' p.code.length d']) ∧ IsP_N w' (.slice a' p.names.length c') (.slice b' p.code.length d') p ∧ Kept [] W w') := Hid.mk fun W k h1 h2 => by
  refine (theirs11 (hI.keep (k0.then k)) h1 h2).mono ?_
  rintro e w' ⟨v', u', rfl, hp, hk⟩
  obtain ⟨a', c', b', d', rfl, rfl, -, -⟩ := hp.form
  exact ⟨a', c', b', d', rfl, hp, hk⟩
 clear hI hG hK hC hO k0 hb0 hb1 hz0 hn hl hp ht he hsz h64 hn1 hn2 hn3
 obtain ⟨y0, y1⟩ := (HS.out W0 (Kept.refl _ _)).1
 go_enter Tryz.func3, Tryz.ntmps3
 go_wp2_with fail
 clear y0 y1
 refine (HAw.out W0 (Kept.refl [] W0)).mono ?_
 rintro e w1 ⟨rfl, k1⟩
 have K1 := Hid.mk k1
 clear k1
 obtain ⟨⟨y0, y1⟩, z0, z1, z2, z3, z4⟩ := HS.out w1 K1.out
 go_wp2_with fail
 refine (HFw.out w1 K1.out).mono ?_
 rintro e w2 ⟨hf, k2⟩
 have K2 : Hid (Kept [] W0 w2) := Hid.mk (K1.out.then k2)
 clear k2 y0 y1 z0 z1 z2 z3 z4
 rcases hf with ⟨rfl, q1, q2, q3, q4⟩ | rfl
 ·obtain ⟨⟨y0, y1⟩, z0, z1, z2, z3, z4⟩ := HS.out w2 K2.out
  have HOf2 := Hid.mk (HOf.out w2 K2.out q1 q2)
  have HQ := Hid.mk (And.intro q1 (And.intro q2 (And.intro q3 q4)))
  clear q1 q2 q3 q4 HOf HFw
  go_wp2_with fail
  refine HOf2.out.mono ?_
  rintro e w3 ⟨P, v5, u5, rfl, hB, hv, hu⟩
  obtain ⟨A, hA⟩ : ∃ A, A = ofA [109, 101] ls ts es tr (ps.map (·.x)) := ⟨_, rfl⟩
  have hLim : Lim A ts.length es.length := by rw [hA]; exact ofA_lim _ _ _ _ _ _
  have htr : A.tries = tr := by rw [hA]; rfl
  have hpo : A.poi = ps.map (·.x) := by rw [hA]; rfl
  have HPOI := Hid.mk hpo
  rw [← hA] at hB
  rw [← hpo] at hv hu
  rw [← htr] at hB
  have HAP := Hid.mk (hB.ap hv)
  have HAF := Hid.mk (hB.af hu)
  have K3 : Hid (Kept [] W0 w3) := Hid.mk (K2.out.then hB.k)
  have HL := Hid.mk hLim
  clear hB hv hu hA hLim htr hpo HOf2 y0 y1 z0 z1 z2 z3 z4
  have HPoi : Hid (PoiB A) := Hid.mk ⟨by rw [HPOI.out]; have := len_le_wL ps; have := HQ.out.1; rw [List.length_map]; omega, by
   rw [HPOI.out]
   intro x hx
   obtain ⟨q, hq, rfl⟩ := List.mem_map.1 hx
   have := arg_le_wL hq
   have := HQ.out.1
   omega⟩
  have hts : ts.length ≤ 10000 := by have := len_le_wT ts; have := HQ.out.1; omega
  have hes : es.length ≤ 300 := by have := HQ.out.2.1; omega
  have HTE := Hid.mk (And.intro hts hes)
  have HPL : Hid (W0.heap.size ≤ P.p ∧ W0.heap.size ≤ P.j ∧ W0.heap.size ≤ P.i ∧ W0.heap.size ≤ P.o) := by
   obtain ⟨v9, q9, -, -⟩ := HAP.out
   have := K2.out.size
   have := q9.hp; have := q9.hj; have := q9.hi; have := q9.ho
   exact Hid.mk (by omega)
  have ha : (tu : Int) % 12 = ((tu % 12 : Nat) : Int) := by omega
  have hm : tu % 12 ≤ 11 := by omega
  generalize tu % 12 = m at *
  have HM := Hid.mk hm
  clear hts hes htu hm
  go_wp2_with fail
  simp only [ha]
  clear ha
  go_loopw [10, 41] (fun fv i wr => ∃ (j : Nat) (a : Ac) (f fj fi fo : Nat), fv = Ptr f ∧ i = .int .u8 (j : Int) ∧ j ≤ m ∧ Hid (AP w2 wr P.p P.j P.i P.o a ∧ AF w2 wr f fj fi fo a ∧ Lim a (ts.length + 4 * j) (es.length + 900 * j) ∧ PoiB a ∧ Kept [] W0 wr)) (fun _ i _ => m - (intOf i).toNat)
  case atStart => exact ⟨0, A, P.f, P.fj, P.fi, P.fo, rfl, rfl, by omega, Hid.mk ⟨HAP.out, HAF.out, HL.out, HPoi.out, K3.out⟩⟩
  case round =>
   obtain ⟨j, a, f, fj, fi, fo, rfl, rfl, hj, H⟩ := hrel
   clear HAP HAF HL HPoi K3
   by_cases hlt : j < m
   ·have HLT := Hid.mk hlt
    have KW : Hid (Kept [] W0 wr) := Hid.mk H.out.2.2.2.2
    have hjI : (j : Int) < (m : Int) := by omega
    have e1 : IntKind.u8.wrap ((j : Int) + 1) = ((j + 1 : Nat) : Int) := by rw [IntKind.wrap_u8]; have := HM.out; omega
    have HE1 := Hid.mk e1
    obtain ⟨y0, y1⟩ := (HS.out wr KW.out).1
    have HT4 := Hid.mk (HTh.out wr KW.out (by have := HQ.out.2.2.1; omega) HQ.out.2.2.2)
    have HNX : Hid (GoodP (takeA p a now).1 ∧ Lim (takeA p a now).1 (ts.length + 4 * (j + 1)) (es.length + 900 * (j + 1)) ∧ PoiB (takeA p a now).1 ∧ (takeA p a now).2.1.tm.length ≤ 900) := by
     obtain ⟨v9, q9, -, g9⟩ := H.out.1
     have hl := H.out.2.2.1
     have h1 := takeA_good (p := p) (now := now) g9 hl (by have := HTE.out; have := HM.out; omega) (by have := HTE.out; have := HM.out; omega) HX.out.2.1 HX.out.2.2
     refine Hid.mk ⟨h1.1, ⟨fun y hy => by have := h1.2.ser y hy; omega, by have := h1.2.ver; omega⟩, takeA_poi g9 H.out.2.2.2.1, takeA_tm g9 HX.out.2.1 HX.out.2.2⟩
    clear e1
    go_wp2_with fail
    refine HT4.out.mono ?_
    rintro e w4 ⟨b1, e1, b2, e2, rfl, ip, k4⟩
    have K4 : Hid (Kept [] W0 w4) := Hid.mk (KW.out.then k4)
    have HAP4 := Hid.mk (H.out.1.kept0 k4)
    have HAF4 := Hid.mk (H.out.2.1.kept0 k4)
    have HC := Hid.mk (take10 (HG.out.kept (HK0.out.then K4.out)) HAP4.out H.out.2.2.1 (by have := HTE.out; have := HM.out; omega) (by have := HTE.out; have := HM.out; omega) ip HX.out.1 HX.out.2.1 HX.out.2.2)
    clear ip k4 y0 y1 HT4
    go_wp2_with fail
    refine HC.out.mono ?_
    rintro e w5 ⟨v6, rfl, hoc, hap, k5⟩
    have HAF5 := Hid.mk (HAF4.out.turnP HAP4.out k5)
    have K5 : Hid (Kept [] W0 w5) := Hid.mk (K4.out.trans k5 (fun x hx => by
     right
     have := HPL.out
     simp at hx
     rcases hx with rfl | rfl | rfl | rfl <;> omega))
    have HAP5 := Hid.mk hap
    obtain ⟨tv, rfl, q1, q1n⟩ := hoc
    obtain ⟨a7, c7, rfl, -, -⟩ := q1.form
    rw [rowT_length] at *
    clear hap k5 HC HAP4 HAF4
    have HDT := Hid.mk (fun W (k : Kept [] W0 W) (haf : AF w2 W f fj fi fo a) (hs : w2.heap.size ≤ W.heap.size) => rtake12 (pg := p) (now := now) haf hs H.out.2.2.1 (by have := HTE.out; have := HM.out; omega) (by have := HTE.out; have := HM.out; omega) (HI.out.keep (HK0.out.then k)) HX.out.1 HX.out.2.1 HX.out.2.2)
    generalize takeA p a now = TR at *
    obtain ⟨W6, e6, k6, hz6, hb6⟩ := box1 w5 (.cells #[.bool TR.2.1.done, .bool TR.2.1.poi, .int .i64 TR.2.1.failed, .int .i64 (TR.2.1.steps : Int), .slice a7 TR.2.1.tm.length c7] 39)
    have HB6 := Hid.mk hb6
    have HOC : Hid (∀ W, Kept [] W6 W → IsOc w4.heap.size W (.agg #[.bool TR.2.1.done, .bool TR.2.1.poi, .int .i64 TR.2.1.failed, .int .i64 (TR.2.1.steps : Int), .slice a7 TR.2.1.tm.length c7]) TR.2.1) := Hid.mk fun W k => ⟨_, rfl, q1.keep (k6.then k), q1n⟩
    have K6 : Hid (Kept [] W0 W6) := Hid.mk (K5.out.then k6)
    have HAP6 := Hid.mk (HAP5.out.kept0 k6)
    have HD := Hid.mk (HDT.out W6 K6.out (HAF5.out.kept0 k6) (by obtain ⟨v9, q9, -, -⟩ := HAP6.out; have := q9.hp; have := lt_of_block q9.box; omega))
    obtain ⟨y0, y1⟩ := (HS.out W6 K6.out).1
    clear q1 q1n k6 hz6 hb6 HAP5 HAF5 HDT
    dsimp only [Oval]
    go_wp2_with fail
    refine HD.out.mono ?_
    rintro e w7 ⟨f2, fj2, fi2, fo2, v8, rfl, hoc2, haf2, k7⟩
    obtain ⟨tv2, rfl, r1, r1n⟩ := hoc2
    obtain ⟨a9, c9, rfl, -, -⟩ := r1.form
    rw [rowT_length] at *
    obtain ⟨W8, e8, k8, hz8, hb8⟩ := box1 w7 (.cells #[.bool TR.2.1.done, .bool TR.2.1.poi, .int .i64 TR.2.1.failed, .int .i64 (TR.2.1.steps : Int), .slice a9 TR.2.1.tm.length c9] 48)
    have K68 : Hid (Kept [] W6 W8) := Hid.mk (k7.then k8)
    have K8 : Hid (Kept [] W0 W8) := Hid.mk (K6.out.then K68.out)
    have HAP8 := Hid.mk (HAP6.out.kept0 K68.out)
    have HAF8 := Hid.mk (haf2.kept0 k8)
    have HOC2 : Hid (∀ W, Kept [] W8 W → IsOc W6.heap.size W (.agg #[.bool TR.2.1.done, .bool TR.2.1.poi, .int .i64 TR.2.1.failed, .int .i64 (TR.2.1.steps : Int), .slice a9 TR.2.1.tm.length c9]) TR.2.1) := Hid.mk fun W k => ⟨_, rfl, r1.keep (k8.then k), r1n⟩
    have HSC : Hid (∀ V, Kept [] W8 V → (V.cell? ⟨w5.heap.size, 0, none⟩ = some (.bool TR.2.1.done) ∧ V.cell? ⟨w5.heap.size, 1, none⟩ = some (.bool TR.2.1.poi) ∧ V.cell? ⟨w5.heap.size, 2, none⟩ = some (.int .i64 TR.2.1.failed) ∧ V.cell? ⟨w5.heap.size, 3, none⟩ = some (.int .i64 (TR.2.1.steps : Int)) ∧ V.cell? ⟨w5.heap.size, 4, none⟩ = some (.slice a7 TR.2.1.tm.length c7)) ∧ (V.cell? ⟨w7.heap.size, 0, none⟩ = some (.bool TR.2.1.done) ∧ V.cell? ⟨w7.heap.size, 1, none⟩ = some (.bool TR.2.1.poi) ∧ V.cell? ⟨w7.heap.size, 2, none⟩ = some (.int .i64 TR.2.1.failed) ∧ V.cell? ⟨w7.heap.size, 3, none⟩ = some (.int .i64 (TR.2.1.steps : Int)) ∧ V.cell? ⟨w7.heap.size, 4, none⟩ = some (.slice a9 TR.2.1.tm.length c9))) := Hid.mk fun V k => ⟨cells5 ((K68.out.then k).keeps HB6.out (by simp)), cells5 (k.keeps hb8 (by simp))⟩
    have KD : Hid (Kept [] W8 W8.drew) := Hid.mk (Kept.refl [] W8).drew
    have H14 := Hid.mk (ours14 (HOC.out W8.drew (K68.out.then KD.out)) HNX.out.2.2.2)
    have H13 : Hid (∀ V v9, Kept [] W8 V → IsOc W8.drew.heap.size V v9 TR.2.1 → Calls Tryz.prog 13 #[v9, .agg #[.bool TR.2.1.done, .bool TR.2.1.poi, .int .i64 TR.2.1.failed, .int .i64 (TR.2.1.steps : Int), .slice a9 TR.2.1.tm.length c9]] V fun e w' => e = .returned (.bool true) ∧ Kept [] V w') := Hid.mk fun V v9 k h9 => sameOut13 h9 (HOC2.out V k)
    have H15 : Hid (∀ V, Kept [] W8 V → Calls Tryz.prog 15 #[Ptr P.p, Ptr f2] V fun e w' => e = .returned (.bool true) ∧ Kept [] V w') := Hid.mk fun V k => same9 (HAP8.out.kept0 k).act (HAF8.out.kept0 k).act (by have := HNX.out.2.2.1.1; omega) (fun x hx => by have := HNX.out.2.2.1.2 x hx; omega)
    have S0 := HSC.out _ KD.out
    clear r1 r1n k7 haf2 k8 hz8 hb8 HD y0 y1 HAP6
    dsimp only [Oval]
    go_wp2_with fail
    go_region_held3 (fun V => (V.cell? ⟨w5.heap.size, 0, none⟩ = some (.bool TR.2.1.done) ∧ V.cell? ⟨w5.heap.size, 1, none⟩ = some (.bool TR.2.1.poi) ∧ V.cell? ⟨w5.heap.size, 2, none⟩ = some (.int .i64 TR.2.1.failed) ∧ V.cell? ⟨w5.heap.size, 3, none⟩ = some (.int .i64 (TR.2.1.steps : Int)) ∧ V.cell? ⟨w5.heap.size, 4, none⟩ = some (.slice a7 TR.2.1.tm.length c7)) ∧ (V.cell? ⟨w7.heap.size, 0, none⟩ = some (.bool TR.2.1.done) ∧ V.cell? ⟨w7.heap.size, 1, none⟩ = some (.bool TR.2.1.poi) ∧ V.cell? ⟨w7.heap.size, 2, none⟩ = some (.int .i64 TR.2.1.failed) ∧ V.cell? ⟨w7.heap.size, 3, none⟩ = some (.int .i64 (TR.2.1.steps : Int)) ∧ V.cell? ⟨w7.heap.size, 4, none⟩ = some (.slice a9 TR.2.1.tm.length c9))) (first | with_reducible exact S0 | with_reducible exact HSC.out _ J3.out | with_reducible exact HSC.out _ J2.out | with_reducible exact HSC.out _ J1.out) (first | (go_at_call 15; refine (H15.out _ J2.out).mono ?_; rintro e x3 ⟨rfl, t3⟩; have J3 : Hid (Kept [] W8 x3) := Hid.mk (J2.out.then t3); clear t3) | (go_at_call 13; refine (H13.out _ _ J1.out HV9.out).mono ?_; rintro e x2 ⟨rfl, t2⟩; have J2 : Hid (Kept [] W8 x2) := Hid.mk (J1.out.then t2); clear t2) | (go_at_call 14; refine H14.out.mono ?_; rintro e x1 ⟨v9, rfl, h9, t1⟩; have J1 : Hid (Kept [] W8 x1) := Hid.mk (KD.out.then t1); have HV9 := Hid.mk h9; clear t1 h9))
    have H9 : Hid (AP w2 x3 P.p P.j P.i P.o TR.1 ∧ AF w2 x3 f2 fj2 fi2 fo2 TR.1 ∧ Lim TR.1 (ts.length + 4 * (j + 1)) (es.length + 900 * (j + 1)) ∧ PoiB TR.1 ∧ Kept [] W0 x3) := Hid.mk ⟨HAP8.out.kept0 J3.out, HAF8.out.kept0 J3.out, HNX.out.2.1, HNX.out.2.2.1, K8.out.then J3.out⟩
    have e9 := HE1.out
    clear S0
    go_wp2_with fail
    go_roundw
    case rel => exact ⟨j + 1, TR.1, f2, fj2, fi2, fo2, rfl, by first | rfl | go_num, by have := HLT.out; omega, H9⟩
    case measure => (have := HLT.out; simp [intOf]; omega)
   ·have hjI : ¬ (j : Int) < (m : Int) := by omega
    obtain rfl : j = m := by omega
    go_wp2_with fail
    go_ret
    exact ⟨rfl, HK0.out.then H.out.2.2.2.2⟩
 ·go_wp2_with fail
  refine (HAw.out w2 K2.out).mono ?_
  rintro e w3 ⟨rfl, k3⟩
  go_wp2_with fail
  go_ret
  exact ⟨rfl, HK0.out.then (K2.out.then k3)⟩
end
end Go.Proofs.YtngnenbidpojeaaGreatDoor
