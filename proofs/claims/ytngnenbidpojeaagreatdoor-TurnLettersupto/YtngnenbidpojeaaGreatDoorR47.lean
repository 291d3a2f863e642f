import Derived.Test.YtngnenbidpojeaaGreatDoorR19
import Derived.Test.YtngnenbidpojeaaGreatDoorR20
import Derived.Test.YtngnenbidpojeaaGreatDoorR22
import Derived.Test.YtngnenbidpojeaaGreatDoorR26
import Derived.Test.YtngnenbidpojeaaGreatDoorR29
import Derived.Test.YtngnenbidpojeaaGreatDoorR36
import Derived.Test.YtngnenbidpojeaaGreatDoorR37
import Derived.Test.YtngnenbidpojeaaGreatDoorR44
import Derived.Test.YtngnenbidpojeaaGreatDoorR45
import Derived.Test.YtngnenbidpojeaaGreatDoorR46
/-
  awake.
-/
namespace Go.Proofs.YtngnenbidpojeaaGreatDoor
set_option maxRecDepth 100000
open Go.RowKit
set_option linter.unusedVariables false
def pgB : Pg := ⟨[], [⟨5, 0⟩, ⟨3, 0⟩]⟩
theorem okpB : OkP pgB := fun x hx => by
  simp [pgB] at hx
  rcases hx with rfl | rfl <;> exact i64_lit (by decide)
def ltB : Lt := ⟨[], 0, 4, []⟩
def acB : Ac := ⟨newJ, [ltB], ⟨[97], [], []⟩, 0, []⟩
def acC : Ac := ⟨⟨[0, 0, 0, 0, 0, 0, 0, 0], [⟨0, 4⟩], 1⟩, [], ⟨[97], [], []⟩, 0, []⟩
theorem takeB : takeA pgB acB 0 = (acC, ⟨true, false, 0, 2, []⟩, 0) := by rfl
section
variable {w0 w w' : World} {p pj pi po : Nat} {a : Ac} {v : Value}
/-- A letter is pushed. -/
theorem pushP_any (h : AP w0 w p pj pi po a) (x : Lt) (ad : Option Addr) (c : Nat) (hx : ReadsJ w (.slice ad x.args.length c) x.args) (hok : x.ok) :
    Calls Tryz.prog 22 #[Ptr pi, Lv x ad c] w fun e w' => e = .returned (Iv (pushE a.inb.length x)) ∧ AP w0 w' p pj pi po (pushAc a x) ∧ Kept [pi] w w' := by
  obtain ⟨v, hpa, hpo, hg⟩ := h
  obtain ⟨qs, h3, h4⟩ := hpa.i
  have hl : qs.length = a.inb.length := by rw [← h4, List.length_map]
  refine (push11 x ad c h3 hx hok).mono ?_
  rintro e w1 ⟨qs', rfl, hB, hm, k1, -⟩
  rw [hl]
  have T := TT.ofB h3 hpa.hi k1
  exact ⟨rfl, ⟨v, (hpa.putI hB k1).as rfl (by show pushL a.inb x = _; rw [hm, h4]) rfl, hpo.turn T (by decide) (by decide), hg.push hok⟩, k1⟩
theorem AP.new {key : List UInt8} (h : PA w0 w p pj pi po 0 (.slice none 0 0) (newA key)) (hk : isKey key = true) : AP w0 w p pj pi po (newA key) :=
  ⟨_, h, ⟨[], OwnsR.nil _ _ _, by simp, rfl⟩, (GoodA.new hk).toGoodP⟩
theorem Lim.new (key : List UInt8) : Lim (newA key) 0 0 := ⟨fun y hy => by simp [newA] at hy, Nat.le_refl _⟩
set_option maxHeartbeats 4000000 in
theorem awake7 (hG : Glob w) : Calls Tryz.prog 7 #[] w fun e w' => e = .returned (.bool true) ∧ Kept [] w w' := by
  have HGl := Hid.mk hG
  have HN := Hid.mk (new13 (w0 := w) (w := w) [97] (by decide) (Nat.le_refl _))
  clear hG
  go_enter Tryz.func7, Tryz.ntmps7
  go_wp2_with fail
  refine HN.out.mono ?_
  rintro e w1 ⟨p, pj, pi, po, rfl, hp, k1⟩
  have HP := Hid.mk (AP.new hp (by decide))
  have K1 := Hid.mk k1
  obtain ⟨d0, d1, d2, d3, d4⟩ := hp.cells
  have HC := Hid.mk (pushP_any HP.out ltB none 0 (ReadsR.nil 1 w1) (lok_of (by decide) (i64_lit (by decide)) (fun z hz => by simp [ltB] at hz)))
  clear hp k1 HN
  go_wp2_with fail
  refine HC.out.mono ?_
  rintro e w2 ⟨rfl, hp2, k2⟩
  have he : pushE (newA [97]).inb.length ltB = 0 := by rfl
  rw [he]
  have HP2 : Hid (AP w w2 p pj pi po acB) := Hid.mk hp2
  have hlt : p < w1.heap.size ∧ w.heap.size ≤ pi := by
    obtain ⟨v, q1, -, -⟩ := HP.out
    exact ⟨lt_of_block q1.box, q1.hi⟩
  have K2 : Hid (Kept [] w w2) := Hid.mk (K1.out.trans k2 (fun x hx => .inr (by simp at hx; omega)))
  clear hp2 k2 HC d0 d1 d2 d3 d4 HP he
  go_wp2_with fail
  obtain ⟨W3, e3, k3, hz3, hb3⟩ := box1 w2 (.cells #[.int .i64 5, .int .i64 0, .int .i64 3, .int .i64 0] 83)
  rw [e3]
  have K3 : Hid (Kept [] w W3) := Hid.mk (K2.out.then k3)
  have hC := take10 (HGl.out.kept K3.out) (HP2.out.kept0 k3) (B := 0) (V := 0) ⟨fun y hy => by simp [acB] at hy, Nat.le_refl _⟩ (by omega) (by omega) (pg := pgB) (now := 0) ⟨ReadsR.nil 1 W3, prog_fresh (C := pgB.code) hb3 (by decide)⟩ (by simp [pgB]) okpB (i64_lit (by decide))
  rw [takeB] at hC
  refine hC.mono ?_
  rintro e w4 ⟨v4, rfl, ⟨tv, rfl, q1, -⟩, hap, k4⟩
  obtain ⟨at', ct', rfl, -, -⟩ := q1.form
  obtain ⟨v5, q5, -, g5⟩ := hap
  have hlt5 := lt_of_block q5.box
  obtain ⟨W5, e5, k5, hz5, hb5⟩ := box1 w4 (.cells #[.bool true, .bool false, .int .i64 0, .int .i64 2, .slice at' 0 ct'] 39)
  have q6 := q5.kept0 k5
  obtain ⟨x0, x1, x2, x3, x4⟩ := cells5 hb5
  obtain ⟨d0, d1, d2, d3, d4⟩ := q6.cells
  have K5 : Hid (Kept [] w W5) := Hid.mk ((K3.out.trans k4 (fun x hx => by
    have h1 := HP2.out.choose_spec.1
    have := h1.hp; have := h1.hj; have := h1.hi; have := h1.ho
    right
    simp at hx
    rcases hx with rfl | rfl | rfl | rfl <;> omega)).then k5)
  have HSt : Hid (Calls Tryz.prog 23 #[Ptr pj] W5 fun e w' => e = .returned (.agg #[.int .i64 4, .int .i64 0, .int .i64 0, .int .i64 0, .int .i64 0, .int .i64 0, .int .i64 0, .int .i64 0]) ∧ Kept [] W5 w') := Hid.mk (state18 q6.j g5.j.reg)
  have HP6 := Hid.mk q6
  clear q1 q5 q6 g5 hC hb5 k4 k5 hz5 hz3 hb3 k3 e3
  dsimp only [Oval]
  rw [show (rowT ([] : List Tm)).length = 0 from rfl]
  go_wp2_with fail
  refine HSt.out.mono ?_
  rintro e w6 ⟨rfl, k6⟩
  have q7 := HP6.out.kept0 k6
  obtain ⟨qs, hB, hq⟩ := q7.i
  have hq0 : qs = [] := List.map_eq_nil_iff.1 hq
  subst hq0
  obtain ⟨d0', d1', d2', d3', d4'⟩ := q7.cells
  have HLn := Hid.mk (len21 hB)
  have hix : ∀ W : World, (Instr.index 84 (.agg #[.int .i64 4, .int .i64 0, .int .i64 0, .int .i64 0, .int .i64 0, .int .i64 0, .int .i64 0, .int .i64 0]) (.int .i64 0)).run Tryz.prog W = .ok (.int .i64 4) W := fun W => index29 (A := [4, 0, 0, 0, 0, 0, 0, 0]) (i := 0) (x := 4) rfl rfl W
  have K6 := Hid.mk (K5.out.then k6)
  clear k6 q7 hB hq d0 d1 d2 d3 d4
  go_wp2_with fail
  refine HLn.out.mono ?_
  rintro e w7 ⟨rfl, rfl⟩
  go_wp2_with fail
  go_ret
  exact ⟨rfl, K6.out⟩
end
end Go.Proofs.YtngnenbidpojeaaGreatDoor
/-
  TurnLetters' walk.
-/
namespace Go.Proofs.YtngnenbidpojeaaGreatDoor
set_option maxRecDepth 100000
open Go.RowKit
set_option linter.unusedVariables false
/-- What an actor has at first, as it came in. -/
structure StIn (w : World) (sv : Value) (ls ps : List Lq) (ts : List (List UInt8)) (es : List Ep) (tr : Int) : Prop where
  form : ∃ a1 n1 c1 a2 n2 c2 a3 n3 c3 x4, sv = .agg #[.slice a1 n1 c1, .slice a2 n2 c2, .slice a3 n3 c3, x4, .int .i64 tr] ∧ LetsIn w (.slice a1 n1 c1) ls ∧ LetsIn w (.slice a2 n2 c2) ps ∧ TextsIn w (.slice a3 n3 c3) ts ∧ EvsIn w x4 es
  size : wL ls + wL ps + wT ts ≤ 2000000
  tr64 : I64 tr
theorem Both.ap {w0 w : World} {P : Pt} {v u : Value} {a : Ac} (T : Both w0 w P a.tries v a.tries u a a) (hv : PoiO w v a.poi) : AP w0 w P.p P.j P.i P.o a := ⟨v, T.pa, hv, T.ga⟩
theorem Both.af {w0 w : World} {P : Pt} {v u : Value} {a : Ac} (T : Both w0 w P a.tries v a.tries u a a) (hu : PoiO w u a.poi) : AF w0 w P.f P.fj P.fi P.fo a := ⟨u, T.fa, hu, T.gb⟩
section
variable {w : World}
set_option maxHeartbeats 8000000 in
theorem letters4 {v sv : Value} {p : Pg} {ls ps : List Lq} {ts : List (List UInt8)} {es : List Ep} {tr : Int} (hP : PgIn w v p) (hG : Glob w) (hS : StIn w sv ls ps ts es tr) (now : Int) (hn : I64 now) :
    Calls Tryz.prog 4 #[v, sv, .int .i64 now] w fun e w' => e = .returned (.bool true) ∧ Kept [] w w' := by
  obtain ⟨⟨v1, u1, rfl, hI⟩, hK, hC⟩ := hP
  have hO : OkP p := fun x hx => (hC x hx).2
  obtain ⟨av, cv, bv, dv, rfl, rfl, -, -⟩ := hI.form
  obtain ⟨⟨a1, n1, c1, a2, n2, c2, a3, n3, c3, x4, rfl, hl, hp, ht, he⟩, hsz, h64⟩ := hS
  obtain ⟨a4, c4, rfl, -, -⟩ := rowE_form he.1
  obtain ⟨W0, e0, k0, hz0, hb0, hb1⟩ := box2 w (.cells #[.slice av p.names.length cv, .slice bv p.code.length dv] 25) (.cells #[.slice a1 n1 c1, .slice a2 n2 c2, .slice a3 n3 c3, .slice a4 es.length c4, .int .i64 tr] 29)
  have HK0 := Hid.mk k0
  have HI := Hid.mk hI
  have HG := Hid.mk hG
  have HX := Hid.mk (And.intro hK (And.intro hO hn))
  have HS : Hid (∀ W, Kept [] W0 W → (W.cell? ⟨w.heap.size, 0, none⟩ = some (.slice av p.names.length cv) ∧ W.cell? ⟨w.heap.size, 1, none⟩ = some (.slice bv p.code.length dv)) ∧ W.cell? ⟨w.heap.size + 1, 0, none⟩ = some (.slice a1 n1 c1) ∧ W.cell? ⟨w.heap.size + 1, 1, none⟩ = some (.slice a2 n2 c2) ∧ W.cell? ⟨w.heap.size + 1, 2, none⟩ = some (.slice a3 n3 c3) ∧ W.cell? ⟨w.heap.size + 1, 3, none⟩ = some (.slice a4 es.length c4) ∧ W.cell? ⟨w.heap.size + 1, 4, none⟩ = some (.int .i64 tr)) := Hid.mk fun W k => ⟨cells2_N (k.keeps hb0 (by simp)), cells5 (k.keeps hb1 (by simp))⟩
  have HAw : Hid (∀ W, Kept [] W0 W → Calls Tryz.prog 7 #[] W fun e w' => e = .returned (.bool true) ∧ Kept [] W w') := Hid.mk fun W k => awake7 (hG.kept (k0.then k))
  have HFw : Hid (∀ W, Kept [] W0 W → Calls Tryz.prog 8 #[.agg #[.slice a1 n1 c1, .slice a2 n2 c2, .slice a3 n3 c3, .slice a4 es.length c4, .int .i64 tr], .agg #[.slice av p.names.length cv, .slice bv p.code.length dv]] W fun e w' => FewS ls ps ts es.length p e ∧ Kept [] W w') := Hid.mk fun W k =>
    few8 (hl.1.kept (k0.then k) (by simp)) (hp.1.kept (k0.then k) (by simp)) (ht.kept0 (k0.then k)) (he.kept (k0.then k)).1 hsz (hI.keep (k0.then k)) hK
  have hn1 := hl.1.bound.1
  have hn2 := hp.1.bound.1
  have hn3 := ht.bound.1
  have HOf : Hid (∀ W, Kept [] W0 W → wL ls + wL ps + wT ts < 10000 → es.length < 300 → Calls Tryz.prog 9 #[Sv [109, 101], .slice a1 n1 c1, .slice a3 n3 c3, .slice a4 es.length c4, .int .i64 tr, .slice a2 n2 c2] W fun e w' => ∃ P v u, e = .returned (.tuple #[Ptr P.p, Ptr P.f]) ∧ Both W w' P tr v tr u (ofA [109, 101] ls ts es tr (ps.map (·.x))) (ofA [109, 101] ls ts es tr (ps.map (·.x))) ∧ PoiO w' v (ps.map (·.x)) ∧ PoiO w' u (ps.map (·.x))) := Hid.mk fun W k h1 h2 => by
    have kk := k0.then k
    have m1 := len_le_wL ls
    have m2 := len_le_wL ps
    have m3 := len_le_wT ts
    exact of9 (by decide) ⟨hl.1.kept kk (by simp), hl.2.1.kept0 kk, hl.2.2⟩ (ht.kept0 kk) (he.kept kk) ⟨hp.1.kept kk (by simp), hp.2.1.kept0 kk, hp.2.2⟩ (by omega) (by omega) (by omega) (by omega) (fun t hm => by have := text_le_wT hm; omega) (fun q hm => by have := arg_le_wL hm; omega)
  have HTh : Hid (∀ W, Kept [] W0 W → p.names.length ≤ 1000 → p.code.length ≤ 1000 → Calls Tryz.prog 11 #[.agg #[.slice av p.names.length cv, .slice bv p.code.length dv]] W fun e w' => ∃ a' c' b' d', e = .returned (.agg #[.slice a' p.names.length c', .slice b' p.code.length d']) ∧ IsP_N w' (.slice a' p.names.length c') (.slice b' p.code.length d') p ∧ Kept [] W w') := Hid.mk fun W k h1 h2 => by
    refine (theirs11 (hI.keep (k0.then k)) h1 h2).mono ?_
    rintro e w' ⟨v', u', rfl, hp, hk⟩
    obtain ⟨a', c', b', d', rfl, rfl, -, -⟩ := hp.form
    exact ⟨a', c', b', d', rfl, hp, hk⟩
  clear hI hG hK hC hO k0 hb0 hb1 hz0 hn hl hp ht he hsz h64 hn1 hn2 hn3
  obtain ⟨y0, y1⟩ := (HS.out W0 (Kept.refl _ _)).1
  go_enter Tryz.func4, Tryz.ntmps4
  go_wp2_with fail
  clear y0 y1
  refine (HAw.out W0 (Kept.refl [] W0)).mono ?_
  rintro e w1 ⟨rfl, k1⟩
  have K1 := Hid.mk k1
  clear k1
  obtain ⟨⟨y0, y1⟩, z0, z1, z2, z3, z4⟩ := HS.out w1 K1.out
  go_wp2_with fail
  refine (HFw.out w1 K1.out).mono ?_
  rintro e w2 ⟨hf, k2⟩
  have K2 : Hid (Kept [] W0 w2) := Hid.mk (K1.out.then k2)
  clear k2 y0 y1 z0 z1 z2 z3 z4
  rcases hf with ⟨rfl, q1, q2, q3, q4⟩ | rfl
  · obtain ⟨⟨y0, y1⟩, z0, z1, z2, z3, z4⟩ := HS.out w2 K2.out
    have HOf2 := Hid.mk (HOf.out w2 K2.out q1 q2)
    have HQ := Hid.mk (And.intro q1 (And.intro q2 (And.intro q3 q4)))
    clear q1 q2 q3 q4 HOf HFw
    go_wp2_with fail
    refine HOf2.out.mono ?_
    rintro e w3 ⟨P, v5, u5, rfl, hB, hv, hu⟩
    obtain ⟨A, hA⟩ : ∃ A, A = ofA [109, 101] ls ts es tr (ps.map (·.x)) := ⟨_, rfl⟩
    have hLim : Lim A ts.length es.length := by rw [hA]; exact ofA_lim _ _ _ _ _ _
    have htr : A.tries = tr := by rw [hA]; rfl
    have hpo : A.poi = ps.map (·.x) := by rw [hA]; rfl
    rw [← hA] at hB
    rw [← hpo] at hv hu
    rw [← htr] at hB
    have HAP := Hid.mk (hB.ap hv)
    have HAF := Hid.mk (hB.af hu)
    have K3 : Hid (Kept [] W0 w3) := Hid.mk (K2.out.then hB.k)
    have HL := Hid.mk hLim
    clear hB hv hu hA hLim htr hpo HOf2 y0 y1 z0 z1 z2 z3 z4
    -- what the document's actor tells
    obtain ⟨vf, hfa, hpf, hgf⟩ := HAF.out
    obtain ⟨av5, cv5, rfl⟩ := hpf.form
    obtain ⟨ui, qs, hIi, hq⟩ := hfa.i
    obtain ⟨ai, ci, rfl, -, -⟩ := hIi.own.row.form
    have hql : qs.length = A.inb.length := by rw [← hq, List.length_map]
    rw [hql] at hIi
    have hkd := (Kept.refl [] w3).drew
    have S0 : w3.drew.cell? ⟨P.f, 1, none⟩ = some (Ptr P.fi) ∧ w3.drew.cell? ⟨P.f, 4, none⟩ = some (.slice av5 A.poi.length cv5) ∧ w3.drew.cell? ⟨P.fi, 0, none⟩ = some (.slice ai A.inb.length ci) := ⟨hfa.cells.2.1, hfa.cells.2.2.2.2, cell_of_one hIi.box⟩
    clear hfa hpf hgf hIi hq hql
    go_wp2_with fail
    go_region_held3 (fun W => W.cell? ⟨P.f, 1, none⟩ = some (Ptr P.fi) ∧ W.cell? ⟨P.f, 4, none⟩ = some (.slice av5 A.poi.length cv5) ∧ W.cell? ⟨P.fi, 0, none⟩ = some (.slice ai A.inb.length ci)) (first | exact S0) (fail)
    have K3d : Hid (Kept [] W0 w3.drew) := Hid.mk K3.out.drew
    have HAPd := Hid.mk (HAP.out.kept0 (Kept.refl [] w3).drew)
    have HPL : Hid (W0.heap.size ≤ P.p ∧ W0.heap.size ≤ P.j ∧ W0.heap.size ≤ P.i ∧ W0.heap.size ≤ P.o) := by
      obtain ⟨v9, q9, -, -⟩ := HAP.out
      have := K2.out.size
      have := q9.hp; have := q9.hj; have := q9.hi; have := q9.ho
      exact Hid.mk (by omega)
    have HGD := Hid.mk HAP.out.choose_spec.2.2
    obtain ⟨y0, y1⟩ := (HS.out _ K3d.out).1
    have HT4 := Hid.mk (HTh.out _ K3d.out (by have := HQ.out.2.2.1; omega) HQ.out.2.2.2)
    clear S0 HAP HAF
    go_wp2_with fail
    refine HT4.out.mono ?_
    rintro e w4 ⟨b1, e1, b2, e2, rfl, ip, k4⟩
    have K4 : Hid (Kept [] W0 w4) := Hid.mk (K3d.out.then k4)
    have HC := Hid.mk (take10 (HG.out.kept (HK0.out.then K4.out)) (HAPd.out.kept0 k4) HL.out (by have := len_le_wT ts; have := HQ.out.1; omega) (by have := HQ.out.2.1; omega) ip HX.out.1 HX.out.2.1 HX.out.2.2)
    have HWy := Hid.mk (take_way (now := now) HGD.out HX.out.2.1 HX.out.2.2)
    clear ip k4 y0 y1 HT4 HAPd
    have hi8A := HGD.out.i8
    clear HGD
    generalize A.inb.length = n at *
    generalize A.poi.length = k at *
    generalize takeA p A now = TR at *
    go_wp2_with fail
    refine HC.out.mono ?_
    rintro e w5 ⟨v6, rfl, hoc, hap, k5⟩
    have hw := HWy.out
    clear HWy
    cases hw with
    | no a c hc hn hk =>
      obtain ⟨tv, rfl, q1, -⟩ := hoc
      obtain ⟨a7, c7, rfl, -, -⟩ := q1.form
      obtain ⟨v8, q8, hp8, g8⟩ := hap
      obtain ⟨a8, c8, rfl⟩ := hp8.form
      obtain ⟨qs8, hB8, hq8⟩ := q8.i
      have hl8 : qs8.length = a.inb.length := by rw [← hq8, List.length_map]
      have hi8 := g8.i8
      have hcI : (c == 0) = false := by simpa using hc
      have hcN : (c != 0) = true := by simpa using hc
      subst hn hk
      clear hc
      obtain ⟨W6, e6, k6, hz6, hb6⟩ := box1 w5 (.cells #[.bool false, .bool false, .int .i64 0, .int .i64 0, .slice a7 (rowT ([] : List Tm)).length c7] 39)
      have K6 : Hid (Kept [] W0 W6) := Hid.mk ((K4.out.trans k5 (fun x hx => by
        right
        have := HPL.out
        simp at hx
        rcases hx with rfl | rfl | rfl | rfl <;> omega)).then k6)
      obtain ⟨x0, x1, x2, x3, x4⟩ := cells5 hb6
      obtain ⟨d0, d1, d2, d3, d4⟩ := (q8.kept0 k6).cells
      have HLn := Hid.mk (len21 (hB8.kept0 k6))
      rw [hl8] at HLn
      clear q1 q8 hp8 g8 hB8 hq8 hl8 k6 hz6 hb6 k5 HC
      dsimp only [Oval, ocN]
      generalize a.inb.length = m at *
      go_wp2_with fail
      refine HLn.out.mono ?_
      rintro e w7 ⟨rfl, rfl⟩
      go_wp2_with fail
      all_goals
        go_ret
        exact ⟨rfl, HK0.out.then K6.out⟩
    | done a s tm hs hn hk ht =>
      obtain ⟨tv, rfl, q1, -⟩ := hoc
      obtain ⟨a7, c7, rfl, -, -⟩ := q1.form
      obtain ⟨v8, q8, hp8, g8⟩ := hap
      obtain ⟨a8, c8, rfl⟩ := hp8.form
      obtain ⟨qs8, hB8, hq8⟩ := q8.i
      have hl8 : qs8.length = a.inb.length := by rw [← hq8, List.length_map]
      have hi8 := g8.i8
      have hsI : (s : Int) ≤ 500 := by omega
      rw [ht] at q8
      subst hn hk
      clear hs ht
      obtain ⟨W6, e6, k6, hz6, hb6⟩ := box1 w5 (.cells #[.bool true, .bool false, .int .i64 0, .int .i64 (s : Int), .slice a7 (rowT tm).length c7] 39)
      have K6 : Hid (Kept [] W0 W6) := Hid.mk ((K4.out.trans k5 (fun x hx => by
        right
        have := HPL.out
        simp at hx
        rcases hx with rfl | rfl | rfl | rfl <;> omega)).then k6)
      obtain ⟨x0, x1, x2, x3, x4⟩ := cells5 hb6
      obtain ⟨d0, d1, d2, d3, d4⟩ := (q8.kept0 k6).cells
      have HLn := Hid.mk (len21 (hB8.kept0 k6))
      rw [hl8] at HLn
      clear q1 q8 hp8 g8 hB8 hq8 hl8 k6 hz6 hb6 k5 HC
      dsimp only [Oval, ocN]
      generalize a.inb.length = m at *
      go_wp2_with fail
      refine HLn.out.mono ?_
      rintro e w7 ⟨rfl, rfl⟩
      go_wp2_with fail
      all_goals
        go_ret
        exact ⟨rfl, HK0.out.then K6.out⟩
    | fail a er s he hs hn hk =>
      obtain ⟨tv, rfl, q1, -⟩ := hoc
      obtain ⟨a7, c7, rfl, -, -⟩ := q1.form
      obtain ⟨v8, q8, hp8, g8⟩ := hap
      obtain ⟨a8, c8, rfl⟩ := hp8.form
      obtain ⟨qs8, hB8, hq8⟩ := q8.i
      have hl8 : qs8.length = a.inb.length := by rw [← hq8, List.length_map]
      have hi8 := g8.i8
      have hsI : (s : Int) ≤ 500 := by omega
      have heI : (er == 0) = false := by simpa using he
      have heN : (er != 0) = true := by simpa using he
      subst hn hk
      clear hs he
      obtain ⟨W6, e6, k6, hz6, hb6⟩ := box1 w5 (.cells #[.bool false, .bool false, .int .i64 er, .int .i64 (s : Int), .slice a7 (rowT ([] : List Tm)).length c7] 39)
      have K6 : Hid (Kept [] W0 W6) := Hid.mk ((K4.out.trans k5 (fun x hx => by
        right
        have := HPL.out
        simp at hx
        rcases hx with rfl | rfl | rfl | rfl <;> omega)).then k6)
      obtain ⟨x0, x1, x2, x3, x4⟩ := cells5 hb6
      obtain ⟨d0, d1, d2, d3, d4⟩ := (q8.kept0 k6).cells
      have HLn := Hid.mk (len21 (hB8.kept0 k6))
      rw [hl8] at HLn
      clear q1 q8 hp8 g8 hB8 hq8 hl8 k6 hz6 hb6 k5 HC
      dsimp only [Oval, ocN]
      generalize a.inb.length = m at *
      go_wp2_with fail
      refine HLn.out.mono ?_
      rintro e w7 ⟨rfl, rfl⟩
      go_wp2_with fail
      all_goals
        go_ret
        exact ⟨rfl, HK0.out.then K6.out⟩
    | pois a er s he hs hn hk h8 ht =>
      obtain ⟨tv, rfl, q1, -⟩ := hoc
      obtain ⟨a7, c7, rfl, -, -⟩ := q1.form
      obtain ⟨v8, q8, hp8, g8⟩ := hap
      obtain ⟨a8, c8, rfl⟩ := hp8.form
      obtain ⟨qs8, hB8, hq8⟩ := q8.i
      have hl8 : qs8.length = a.inb.length := by rw [← hq8, List.length_map]
      have hi8 := g8.i8
      have hsI : (s : Int) ≤ 500 := by omega
      have heI : (er == 0) = false := by simpa using he
      have heN : (er != 0) = true := by simpa using he
      rw [ht] at q8
      rw [hk] at q8
      subst hn
      clear hs he ht hk
      obtain ⟨W6, e6, k6, hz6, hb6⟩ := box1 w5 (.cells #[.bool false, .bool true, .int .i64 er, .int .i64 (s : Int), .slice a7 (rowT ([] : List Tm)).length c7] 39)
      have K6 : Hid (Kept [] W0 W6) := Hid.mk ((K4.out.trans k5 (fun x hx => by
        right
        have := HPL.out
        simp at hx
        rcases hx with rfl | rfl | rfl | rfl <;> omega)).then k6)
      obtain ⟨x0, x1, x2, x3, x4⟩ := cells5 hb6
      obtain ⟨d0, d1, d2, d3, d4⟩ := (q8.kept0 k6).cells
      have HLn := Hid.mk (len21 (hB8.kept0 k6))
      rw [hl8] at HLn
      clear q1 q8 hp8 g8 hB8 hq8 hl8 k6 hz6 hb6 k5 HC
      dsimp only [Oval, ocN]
      generalize a.inb.length = m at *
      go_wp2_with fail
      refine HLn.out.mono ?_
      rintro e w7 ⟨rfl, rfl⟩
      go_wp2_with fail
      all_goals
        go_ret
        exact ⟨rfl, HK0.out.then K6.out⟩
  · go_wp2_with fail
    refine (HAw.out w2 K2.out).mono ?_
    rintro e w3 ⟨rfl, k3⟩
    go_wp2_with fail
    go_ret
    exact ⟨rfl, HK0.out.then (K2.out.then k3)⟩
end
end Go.Proofs.YtngnenbidpojeaaGreatDoor
