import Derived.Test.YtngnenbidpojeaaGreatDoorCards
import Derived.Test.YtngnenbidpojeaaGreatDoorTie
import Derived.Test.YtngnenbidpojeaaGreatDoorRows
import Derived.ProofKit
import Derived.LaidLaws
import Derived.Deep.DeepHandedRow
import Derived.Deep.DeepWitnessRowRef
import Derived.Test.YtngnenbidpojeaaGreatDoorQ19
import Derived.Test.YtngnenbidpojeaaGreatDoorQ22
import Derived.Test.YtngnenbidpojeaaGreatDoorQ23
import Derived.Test.YtngnenbidpojeaaGreatDoorQ37
import Derived.Test.YtngnenbidpojeaaGreatDoorQ38
import Derived.Test.YtngnenbidpojeaaGreatDoorQ39
import Derived.Test.YtngnenbidpojeaaGreatDoorQ42
/-
  awake.
-/
namespace Go.Proofs.YtngnenbidpojeaaGreatDoor
set_option maxRecDepth 100000
open Go.RowKit
set_option linter.unusedVariables false
def pgB : Pg := ⟨[], [⟨5, 0⟩, ⟨3, 0⟩]⟩
theorem okpB : OkP pgB := fun x hx => by
  simp [pgB] at hx
  rcases hx with rfl | rfl <;> exact i64_lit (by decide)
def ltB : Lt := ⟨[], 0, 4, []⟩
def acB : Ac := ⟨newJ, [ltB], ⟨[97], [], []⟩, 0, []⟩
def acC : Ac := ⟨⟨[0, 0, 0, 0, 0, 0, 0, 0], [⟨0, 4⟩], 1⟩, [], ⟨[97], [], []⟩, 0, []⟩
theorem takeB : takeA pgB acB 0 = (acC, ⟨true, false, 0, 2, []⟩, 0) := by rfl
section
variable {w0 w w' : World} {p pj pi po : Nat} {a : Ac} {v : Value}
/-- A letter is pushed. -/
theorem pushP_any (h : AP w0 w p pj pi po a) (x : Lt) (ad : Option Addr) (c : Nat) (hx : ReadsJ w (.slice ad x.args.length c) x.args) (hok : x.ok) :
    Calls Tryz.prog 22 #[Ptr pi, Lv x ad c] w fun e w' => e = .returned (Iv (pushE a.inb.length x)) ∧ AP w0 w' p pj pi po (pushAc a x) ∧ Kept [pi] w w' := by
  obtain ⟨v, hpa, hpo, hg⟩ := h
  obtain ⟨qs, h3, h4⟩ := hpa.i
  have hl : qs.length = a.inb.length := by rw [← h4, List.length_map]
  refine (push11 x ad c h3 hx hok).mono ?_
  rintro e w1 ⟨qs', rfl, hB, hm, k1, -⟩
  rw [hl]
  have T := TT.ofB h3 hpa.hi k1
  exact ⟨rfl, ⟨v, (hpa.putI hB k1).as rfl (by show pushL a.inb x = _; rw [hm, h4]) rfl, hpo.turn T (by decide) (by decide), hg.push hok⟩, k1⟩
theorem AP.new {key : List UInt8} (h : PA w0 w p pj pi po 0 (.slice none 0 0) (newA key)) (hk : isKey key = true) : AP w0 w p pj pi po (newA key) :=
  ⟨_, h, ⟨[], OwnsR.nil _ _ _, by simp, rfl⟩, (GoodA.new hk).toGoodP⟩
theorem Lim.new (key : List UInt8) : Lim (newA key) 0 0 := ⟨fun y hy => by simp [newA] at hy, Nat.le_refl _⟩
set_option maxHeartbeats 4000000 in
theorem awake7 (hG : Glob w) : Calls Tryz.prog 7 #[] w fun e w' => e = .returned (.bool true) ∧ Kept [] w w' := by
  have HGl := Hid.mk hG
  have HN := Hid.mk (new13 (w0 := w) (w := w) [97] (by decide) (Nat.le_refl _))
  clear hG
  go_enter Tryz.func7, Tryz.ntmps7
  go_wp2_with fail
  refine HN.out.mono ?_
  rintro e w1 ⟨p, pj, pi, po, rfl, hp, k1⟩
  have HP := Hid.mk (AP.new hp (by decide))
  have K1 := Hid.mk k1
  obtain ⟨d0, d1, d2, d3, d4⟩ := hp.cells
  have HC := Hid.mk (pushP_any HP.out ltB none 0 (ReadsR.nil 1 w1) (lok_of (by decide) (i64_lit (by decide)) (fun z hz => by simp [ltB] at hz)))
  clear hp k1 HN
  go_wp2_with fail
  refine HC.out.mono ?_
  rintro e w2 ⟨rfl, hp2, k2⟩
  have he : pushE (newA [97]).inb.length ltB = 0 := by rfl
  rw [he]
  have HP2 : Hid (AP w w2 p pj pi po acB) := Hid.mk hp2
  have hlt : p < w1.heap.size ∧ w.heap.size ≤ pi := by
    obtain ⟨v, q1, -, -⟩ := HP.out
    exact ⟨lt_of_block q1.box, q1.hi⟩
  have K2 : Hid (Kept [] w w2) := Hid.mk (K1.out.trans k2 (fun x hx => .inr (by simp at hx; omega)))
  clear hp2 k2 HC d0 d1 d2 d3 d4 HP he
  go_wp2_with fail
  obtain ⟨W3, e3, k3, hz3, hb3⟩ := box1 w2 (.cells #[.int .i64 5, .int .i64 0, .int .i64 3, .int .i64 0] 83)
  rw [e3]
  have K3 : Hid (Kept [] w W3) := Hid.mk (K2.out.then k3)
  have hC := take10 (HGl.out.kept K3.out) (HP2.out.kept0 k3) (B := 0) (V := 0) ⟨fun y hy => by simp [acB] at hy, Nat.le_refl _⟩ (by omega) (by omega) (pg := pgB) (now := 0) ⟨ReadsR.nil 1 W3, prog_fresh (C := pgB.code) hb3 (by decide)⟩ (by simp [pgB]) okpB (i64_lit (by decide))
  rw [takeB] at hC
  refine hC.mono ?_
  rintro e w4 ⟨v4, rfl, ⟨tv, rfl, q1, -⟩, hap, k4⟩
  obtain ⟨at', ct', rfl, -, -⟩ := q1.form
  obtain ⟨v5, q5, -, g5⟩ := hap
  have hlt5 := lt_of_block q5.box
  obtain ⟨W5, e5, k5, hz5, hb5⟩ := box1 w4 (.cells #[.bool true, .bool false, .int .i64 0, .int .i64 2, .slice at' 0 ct'] 39)
  have q6 := q5.kept0 k5
  obtain ⟨x0, x1, x2, x3, x4⟩ := cells5 hb5
  obtain ⟨d0, d1, d2, d3, d4⟩ := q6.cells
  have K5 : Hid (Kept [] w W5) := Hid.mk ((K3.out.trans k4 (fun x hx => by
    have h1 := HP2.out.choose_spec.1
    have := h1.hp; have := h1.hj; have := h1.hi; have := h1.ho
    right
    simp at hx
    rcases hx with rfl | rfl | rfl | rfl <;> omega)).then k5)
  have HSt : Hid (Calls Tryz.prog 23 #[Ptr pj] W5 fun e w' => e = .returned (.agg #[.int .i64 4, .int .i64 0, .int .i64 0, .int .i64 0, .int .i64 0, .int .i64 0, .int .i64 0, .int .i64 0]) ∧ Kept [] W5 w') := Hid.mk (state18 q6.j g5.j.reg)
  have HP6 := Hid.mk q6
  clear q1 q5 q6 g5 hC hb5 k4 k5 hz5 hz3 hb3 k3 e3
  dsimp only [Oval]
  rw [show (rowT ([] : List Tm)).length = 0 from rfl]
  go_wp2_with fail
  refine HSt.out.mono ?_
  rintro e w6 ⟨rfl, k6⟩
  have q7 := HP6.out.kept0 k6
  obtain ⟨qs, hB, hq⟩ := q7.i
  have hq0 : qs = [] := List.map_eq_nil_iff.1 hq
  subst hq0
  obtain ⟨d0', d1', d2', d3', d4'⟩ := q7.cells
  have HLn := Hid.mk (len21 hB)
  have hix : ∀ W : World, (Instr.index 84 (.agg #[.int .i64 4, .int .i64 0, .int .i64 0, .int .i64 0, .int .i64 0, .int .i64 0, .int .i64 0, .int .i64 0]) (.int .i64 0)).run Tryz.prog W = .ok (.int .i64 4) W := fun W => index29 (A := [4, 0, 0, 0, 0, 0, 0, 0]) (i := 0) (x := 4) rfl rfl W
  have K6 := Hid.mk (K5.out.then k6)
  clear k6 q7 hB hq d0 d1 d2 d3 d4
  go_wp2_with fail
  refine HLn.out.mono ?_
  rintro e w7 ⟨rfl, rfl⟩
  go_wp2_with fail
  go_ret
  exact ⟨rfl, K6.out⟩
end
end Go.Proofs.YtngnenbidpojeaaGreatDoor
/-
  Of no actor there is no turn.
-/
namespace Go.Proofs.YtngnenbidpojeaaGreatDoor
set_option maxRecDepth 100000
open Go.RowKit
set_option linter.unusedVariables false
section
variable {w : World}
theorem keeps_nil : Calls Tryz.prog 61 #[.pointer none] w fun e w' => e = .returned (.bool false) ∧ Kept [] w w' := by
  go_enter Tryz.func61, Tryz.ntmps61
  go_wp2_with fail
  go_ret
  exact ⟨rfl, Kept.refl [] w⟩
theorem keeps_zero {p : Nat} (h0 : w.cell? ⟨p, 0, none⟩ = some (.pointer none)) : Calls Tryz.prog 61 #[Ptr p] w fun e w' => e = .returned (.bool false) ∧ Kept [] w w' := by
  go_enter Tryz.func61, Tryz.ntmps61
  go_wp2_with fail
  go_ret
  exact ⟨rfl, Kept.refl [] w⟩
theorem whole_no {pt : Value} (hk : Calls Tryz.prog 61 #[pt] w fun e w' => e = .returned (.bool false) ∧ Kept [] w w') : Calls Tryz.prog 31 #[pt] w fun e w' => e = .returned (.bool false) ∧ Kept [] w w' := by
  have HE : Hid (Calls Tryz.prog 20 #[pt] w fun e w' => e = .returned (.tuple #[.slice none 0 0, .int .i64 1]) ∧ Kept [] w w') := by
    refine Hid.mk ?_
    have HK := Hid.mk hk
    clear hk
    go_enter Tryz.func20, Tryz.ntmps20
    go_wp2_with fail
    refine HK.out.mono ?_
    rintro e w1 ⟨rfl, k1⟩
    go_wp2_with fail
    go_ret2
    exact ⟨rfl, k1⟩
  clear hk
  go_enter Tryz.func31, Tryz.ntmps31
  go_wp2_with fail
  refine HE.out.mono ?_
  rintro e w1 ⟨rfl, k1⟩
  go_wp2_with fail
  go_ret
  exact ⟨rfl, k1⟩
theorem take_no {pt : Value} {na ca : Option Addr} {nn nc cn cc : Nat} {now : Int} (hk : ∀ W, Kept [] w W → Calls Tryz.prog 61 #[pt] W fun e w' => e = .returned (.bool false) ∧ Kept [] W w') :
    Calls Tryz.prog 10 #[.agg #[.slice na nn nc, .slice ca cn cc], pt, .int .i64 now] w fun e w' => e = .returned (.tuple #[.agg #[.bool false, .bool false, .int .i64 0, .int .i64 0, .slice none 0 0], .int .i64 1]) ∧ Kept [] w w' := by
  obtain ⟨W0, e0, k0, hz0, hb0, hb1⟩ := box2 w (.cells #[.slice na nn nc, .slice ca cn cc] 44) (.cells #[.bool false, .bool false, .int .i64 0, .int .i64 0, .slice none 0 0] 39)
  have HW := Hid.mk (whole_no (hk W0 k0))
  clear hk
  go_enter Tryz.func10, Tryz.ntmps10
  go_wp2_with fail
  refine HW.out.mono ?_
  rintro e w1 ⟨rfl, k1⟩
  have hbx := k1.keeps hb1 (by simp)
  obtain ⟨g0, g1, g2, g3, g4⟩ := free5 hbx
  obtain ⟨x0, x1, x2, x3, x4⟩ := cells5 hbx
  have HB := Hid.mk hbx
  have HK := Hid.mk (k0.then k1)
  clear hbx hb0 hb1 k0 k1 hz0
  go_wp2_with fail
  obtain ⟨W8, e8, k8, h8, -⟩ := put5 HB.out (.bool false) (.bool false) (.int .i64 0) (.int .i64 0) (.slice none 0 0)
  rw [e8]
  refine bodyPost_ret (results_cell_row2 (p := 6) (u := 7) (ty := 39) rfl _ _ (w.heap.size + 1) 39 _ (0, 0) _ rfl h8 Tryz.underlying39 rfl (by kernel_rfl) _ rfl) rfl ?_
  exact ⟨rfl, HK.out.trans k8 (fun x hx => .inr (by simp at hx; omega))⟩
end
end Go.Proofs.YtngnenbidpojeaaGreatDoor
/-
  TurnNil's walk.
-/
namespace Go.Proofs.YtngnenbidpojeaaGreatDoor
set_option maxRecDepth 100000
open Go.RowKit
set_option linter.unusedVariables false
/-- What a turn tells of an actor to whom nobody wrote. -/
def wantN (p : Pg) (now : Int) : Int := if formedP p = true ∧ 0 ≤ now then 5 else 1
theorem takeN (p : Pg) (now : Int) (key : List UInt8) : takeA p (newA key) now = (newA key, ocN, wantN p now) := by
  unfold takeA wantN
  by_cases h : formedP p = true ∧ 0 ≤ now
  · rw [if_pos ⟨rfl, h⟩, if_pos h]; rfl
  · rw [if_neg (fun h' => h h'.2), if_neg h]
section
variable {w : World}
set_option maxHeartbeats 8000000 in
theorem nil5 {v : Value} {p : Pg} (hP : PgIn w v p) (hG : Glob w) (now : Int) (hn : I64 now) : Calls Tryz.prog 5 #[v, .int .i64 now] w fun e w' => e = .returned (.bool true) ∧ Kept [] w w' := by
  obtain ⟨⟨v1, u1, rfl, hI⟩, hK, hC⟩ := hP
  have hO : OkP p := fun x hx => (hC x hx).2
  obtain ⟨av, cv, bv, dv, rfl, rfl, -, -⟩ := hI.form
  obtain ⟨W0, e0, k0, hz0, hb0⟩ := box1 w (.cells #[.slice av p.names.length cv, .slice bv p.code.length dv] 25)
  have HK0 := Hid.mk k0
  have HI := Hid.mk hI
  have HG := Hid.mk hG
  have HX := Hid.mk (And.intro hK (And.intro hO hn))
  have HS : Hid (∀ W, Kept [] W0 W → W.cell? ⟨w.heap.size, 0, none⟩ = some (.slice av p.names.length cv) ∧ W.cell? ⟨w.heap.size, 1, none⟩ = some (.slice bv p.code.length dv)) := Hid.mk fun W k => cells2_N (k.keeps hb0 (by simp))
  have HAw : Hid (∀ W, Kept [] W0 W → Calls Tryz.prog 7 #[] W fun e w' => e = .returned (.bool true) ∧ Kept [] W w') := Hid.mk fun W k => awake7 (hG.kept (k0.then k))
  have HFw : Hid (∀ W, Kept [] W0 W → Calls Tryz.prog 17 #[.agg #[.slice av p.names.length cv, .slice bv p.code.length dv]] W fun e w' => FewAt_N p e ∧ Kept [] W w') := Hid.mk fun W k => few9 (hI.keep (k0.then k)) hK
  have HF14 : Hid (∀ W, Kept [] W0 W → Calls Tryz.prog 19 #[.agg #[.slice av p.names.length cv, .slice bv p.code.length dv]] W fun e w' => e = .returned (.bool (formedP p)) ∧ Kept [] W w') := Hid.mk fun W k => formed14_N (hI.keep (k0.then k)) hK
  have HTh : Hid (∀ W, Kept [] W0 W → p.names.length ≤ 1000 → p.code.length ≤ 1000 → Calls Tryz.prog 11 #[.agg #[.slice av p.names.length cv, .slice bv p.code.length dv]] W fun e w' => ∃ a' c' b' d', e = .returned (.agg #[.slice a' p.names.length c', .slice b' p.code.length d']) ∧ IsP_N w' (.slice a' p.names.length c') (.slice b' p.code.length d') p ∧ Kept [] W w') := Hid.mk fun W k h1 h2 => by
    refine (theirs11 (hI.keep (k0.then k)) h1 h2).mono ?_
    rintro e w' ⟨v', u', rfl, hp, hk⟩
    obtain ⟨a', c', b', d', rfl, rfl, -, -⟩ := hp.form
    exact ⟨a', c', b', d', rfl, hp, hk⟩
  clear hI hG hK hC hO k0 hb0 hz0 hn
  go_enter Tryz.func5, Tryz.ntmps5
  go_wp2_with fail
  refine (HAw.out W0 (Kept.refl [] W0)).mono ?_
  rintro e w1 ⟨rfl, k1⟩
  have K1 := Hid.mk k1
  clear k1
  obtain ⟨y0, y1⟩ := HS.out w1 K1.out
  go_wp2_with fail
  refine (HFw.out w1 K1.out).mono ?_
  rintro e w2 ⟨hf, k2⟩
  have K2 : Hid (Kept [] W0 w2) := Hid.mk (K1.out.then k2)
  clear k2 y0 y1
  rcases hf with ⟨rfl, -, q2, q3⟩ | rfl
  · obtain ⟨y0, y1⟩ := HS.out w2 K2.out
    have HT2 := Hid.mk (HTh.out w2 K2.out (by omega) q3)
    go_wp2_with fail
    refine HT2.out.mono ?_
    rintro e w3 ⟨a3, c3, b3, d3, rfl, -, k3⟩
    have K3 : Hid (Kept [] W0 w3) := Hid.mk (K2.out.then k3)
    have HN := Hid.mk (take_no (w := w3) (pt := .pointer none) (na := a3) (nn := p.names.length) (nc := c3) (ca := b3) (cn := p.code.length) (cc := d3) (now := now) (fun W _ => keeps_nil))
    clear y0 y1 HT2 k3
    go_wp2_with fail
    refine HN.out.mono ?_
    rintro e w4 ⟨rfl, k4⟩
    have K4 : Hid (Kept [] W0 (w4.alloc (.cells #[.bool false, .bool false, .int .i64 0, .int .i64 0, .slice none 0 0] 39))) := Hid.mk ((K3.out.then k4).alloc _)
    clear HN k4
    obtain ⟨y0, y1⟩ := HS.out _ K4.out
    have HT4 := Hid.mk (HTh.out _ K4.out (by omega) q3)
    go_wp2_with fail
    refine HT4.out.mono ?_
    rintro e w5 ⟨a5, c5, b5, d5, rfl, -, k5⟩
    obtain ⟨W5, e5, k5', hz5, hb5⟩ := box1 w5 (.cells #[.pointer none, .pointer none, .pointer none, .int .i64 0, .slice none 0 0] 66)
    have K5 : Hid (Kept [] W0 W5) := Hid.mk ((K4.out.then k5).then k5')
    have HN := Hid.mk (take_no (w := W5) (pt := Ptr w5.heap.size) (na := a5) (nn := p.names.length) (nc := c5) (ca := b5) (cn := p.code.length) (cc := d5) (now := now) (fun W kW => keeps_zero (cells5 (kW.keeps hb5 (by simp))).1))
    clear y0 y1 HT4 k5 k5' hz5 hb5
    go_wp2_with fail
    refine HN.out.mono ?_
    rintro e w6 ⟨rfl, k6⟩
    obtain ⟨W6, e6, k6', -, -⟩ := box1 w6 (.cells #[.bool false, .bool false, .int .i64 0, .int .i64 0, .slice none 0 0] 39)
    have K6 : Hid (Kept [] W0 W6) := Hid.mk ((K5.out.then k6).then k6')
    have HE6 := Hid.mk e6
    clear HN k6 k6' e6
    have HNew := Hid.mk (new13 (w0 := W6) (w := W6) [109, 101] (by decide) (Nat.le_refl _))
    go_wp2_with fail
    rw [HE6.out]
    clear HE6
    refine HNew.out.mono ?_
    rintro e w7 ⟨pp, pj, pi, po, rfl, hp, k7⟩
    have K7 : Hid (Kept [] W0 w7) := Hid.mk (K6.out.then k7)
    have HP7 := Hid.mk (AP.new hp (by decide))
    have hpl : W0.heap.size ≤ pp ∧ W0.heap.size ≤ pj ∧ W0.heap.size ≤ pi ∧ W0.heap.size ≤ po := by
      have := K6.out.size
      have := hp.hp; have := hp.hj; have := hp.hi; have := hp.ho
      omega
    have HPL := Hid.mk hpl
    obtain ⟨y0, y1⟩ := HS.out w7 K7.out
    have HT7 := Hid.mk (HTh.out w7 K7.out (by omega) q3)
    clear hp k7 HNew hpl
    go_wp2_with fail
    refine HT7.out.mono ?_
    rintro e w8 ⟨a8, c8, b8, d8, rfl, ip8, k8⟩
    have K8 : Hid (Kept [] W0 w8) := Hid.mk (K7.out.then k8)
    have hC := take10 (HG.out.kept (HK0.out.then K8.out)) (HP7.out.kept0 k8) (Lim.new [109, 101]) (by omega) (by omega) ip8 HX.out.1 HX.out.2.1 HX.out.2.2
    rw [takeN] at hC
    have HC := Hid.mk hC
    clear hC ip8 k8 y0 y1 HT7
    go_wp2_with fail
    refine HC.out.mono ?_
    rintro e w9 ⟨v9, rfl, ⟨tv, rfl, q1, -⟩, -, k9⟩
    obtain ⟨a9, c9, rfl, -, -⟩ := q1.form
    obtain ⟨W9, e9, k9', -, -⟩ := box1 w9 (.cells #[.bool false, .bool false, .int .i64 0, .int .i64 0, .slice a9 0 c9] 39)
    have K9 : Hid (Kept [] W0 W9) := Hid.mk ((K8.out.trans k9 (fun x hx => by
      right
      have := HPL.out
      simp at hx
      rcases hx with rfl | rfl | rfl | rfl <;> omega)).then k9')
    clear q1 k9 k9' HC
    dsimp only [Oval, ocN]
    rw [show (rowT ([] : List Tm)).length = 0 from rfl]
    obtain ⟨y0, y1⟩ := HS.out _ K9.out
    have HF9 := Hid.mk (HF14.out _ K9.out)
    have HW : Hid (wantN p now = if formedP p = true ∧ 0 ≤ now then 5 else 1) := Hid.mk rfl
    generalize wantN p now = wn at *
    by_cases hw : 0 ≤ now
    · have hwI : (now < 0) = False := eq_false (by omega)
      cases hf : formedP p with
      | false =>
        have hwn : wn = 1 := by rw [HW.out, if_neg (by rw [hf]; simp)]
        rw [hf] at HF9
        subst hwn
        clear hw hf HW
        go_wp2_with fail
        refine HF9.out.mono ?_
        rintro e w10 ⟨rfl, k10⟩
        go_wp2_with fail
        go_ret
        exact ⟨rfl, HK0.out.then (K9.out.then k10)⟩
      | true =>
        have hwn : wn = 5 := by rw [HW.out, if_pos ⟨hf, hw⟩]
        rw [hf] at HF9
        subst hwn
        clear hw hf HW
        go_wp2_with fail
        refine HF9.out.mono ?_
        rintro e w10 ⟨rfl, k10⟩
        go_wp2_with fail
        go_ret
        exact ⟨rfl, HK0.out.then (K9.out.then k10)⟩
    · have hwI : now < 0 := by omega
      have hwn : wn = 1 := by rw [HW.out, if_neg (fun h => hw h.2)]
      subst hwn
      clear hw HW HF9
      go_wp2_with fail
      go_ret
      exact ⟨rfl, HK0.out.then K9.out⟩
  · go_wp2_with fail
    refine (HAw.out w2 K2.out).mono ?_
    rintro e w3 ⟨rfl, k3⟩
    go_wp2_with fail
    go_ret
    exact ⟨rfl, HK0.out.then (K2.out.then k3)⟩
end
end Go.Proofs.YtngnenbidpojeaaGreatDoor
/-
  One start that fits: the package's variables as their initialisers lay them.
-/
namespace Go.Proofs.YtngnenbidpojeaaGreatDoor
open Go.RowKit
set_option maxRecDepth 100000
def cellsD1 : DataW Unit → List Value
  | .lit (.int k n) => [.int k n]
  | .lit (.string s) => [.string ⟨s.toArray⟩]
  | _ => []
def cellsD2 : DataW Unit → List Value
  | .agg ps => ps.flatMap cellsD1
  | _ => []
def cellsD3 : DataW Unit → List Value
  | .agg ps => ps.flatMap cellsD2
  | _ => []
def reCells (cs : List Value) : Obj → Obj
  | .cells _ t frozen => .cells cs.toArray t frozen
  | o => o
/-- The settled world; the variable holds what its initialiser lays. -/
noncomputable def laidWorld (os : Os) : World :=
  let w0 := World.holding Tryz.prog os ⟨#[], #[], []⟩
  { w0 with heap := w0.heap.modify 0 (reCells (cellsD3 Rows.laid_reeve_code_operations)) }
theorem own : ownKnob Tryz.prog.godebug = none := by kernel_rfl
theorem laidOut : laidOutB Tryz.prog = true := by kernel_rfl
theorem laid_met (os : Os) (args : Array Value) : laidMet Tryz.prog [("reeve/code.operations", Rows.laid_reeve_code_operations)] ((laidWorld os).forCall (fun _ _ => 0) ⟨#[], args, []⟩).memory :=
  laidMet_of_run' 8 (by kernel_rfl) (by kernel_rfl)
theorem glob_ofH {W : World} (h : laidMetH Tryz.prog [("reeve/code.operations", Rows.laid_reeve_code_operations)] W) : Glob W := by
  have h0 : laidMet Tryz.prog [("reeve/code.operations", Rows.laid_reeve_code_operations)] W := by
    have e : ([("reeve/code.operations", Rows.laid_reeve_code_operations)].filter fun x : String × DataW Unit => x.2.handleName?.isSome) = [] := by kernel_rfl
    unfold laidMetH at h
    rw [e] at h
    exact h
  exact glob_of h0
end Go.Proofs.YtngnenbidpojeaaGreatDoor
