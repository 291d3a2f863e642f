import Derived.Test.YtngnenbidpojeaaDoorW20
import Derived.Test.YtngnenbidpojeaaDoorW37
import Derived.Test.YtngnenbidpojeaaDoorWUg
/-
  awake.
-/
namespace Go.Proofs.YtngnenbidpojeaaDoor
set_option maxRecDepth 100000
open Go.RowKit
set_option linter.unusedVariables false
def pgB : Pg := ⟨[], [⟨5, 0⟩, ⟨3, 0⟩]⟩
theorem okpB : OkP pgB := fun x hx => by
  simp [pgB] at hx
  rcases hx with rfl | rfl <;> exact i64_lit (by decide)
def ltB : Lt := ⟨[], 0, 4, []⟩
def acB : Ac := ⟨newJ, [ltB], ⟨[97], [], []⟩, 0, []⟩
def acC : Ac := ⟨⟨[0, 0, 0, 0, 0, 0, 0, 0], [⟨0, 4⟩], 1⟩, [], ⟨[97], [], []⟩, 0, []⟩
theorem takeB : takeA pgB acB 0 = (acC, ⟨true, false, 0, 2, []⟩, 0) := by rfl
section
variable {w0 w w' : World} {p pj pi po : Nat} {a : Ac} {v : Value}
/-- A letter is pushed. -/
theorem pushP_any (h : AP w0 w p pj pi po a) (x : Lt) (ad : Option Addr) (c : Nat) (hx : ReadsJ w (.slice ad x.args.length c) x.args) (hok : x.ok) :
    Calls Tryd.prog 7 #[Ptr pi, Lv x ad c] w fun e w' => e = .returned (Iv (pushE a.inb.length x)) ∧ AP w0 w' p pj pi po (pushAc a x) ∧ Kept [pi] w w' := by
  obtain ⟨v, hpa, hpo, hg⟩ := h
  obtain ⟨qs, h3, h4⟩ := hpa.i
  have hl : qs.length = a.inb.length := by rw [← h4, List.length_map]
  refine (push11 x ad c h3 hx hok).mono ?_
  rintro e w1 ⟨qs', rfl, hB, hm, k1, -⟩
  rw [hl]
  have T := TT.ofB h3 hpa.hi k1
  exact ⟨rfl, ⟨v, (hpa.putI hB k1).as rfl (by show pushL a.inb x = _; rw [hm, h4]) rfl, hpo.turn T (by decide) (by decide), hg.push hok⟩, k1⟩
theorem AP.new {key : List UInt8} (h : PA w0 w p pj pi po 0 (.slice none 0 0) (newA key)) (hk : isKey key = true) : AP w0 w p pj pi po (newA key) :=
  ⟨_, h, ⟨[], OwnsR.nil _ _ _, by simp, rfl⟩, (GoodA.new hk).toGoodP⟩
theorem Lim.new (key : List UInt8) : Lim (newA key) 0 0 := ⟨fun y hy => by simp [newA] at hy, Nat.le_refl _⟩
set_option maxHeartbeats 4000000 in
theorem awake7 (hG : Glob w) : Calls Tryd.prog 5 #[] w fun e w' => e = .returned (.bool true) ∧ Kept [] w w' := by
  have HGl := Hid.mk hG
  have HN := Hid.mk (new13 (w0 := w) (w := w) [97] (by decide) (Nat.le_refl _))
  clear hG
  go_enter Tryd.func5, Tryd.ntmps5
  go_wp2_with fail
  refine HN.out.mono ?_
  rintro e w1 ⟨p, pj, pi, po, rfl, hp, k1⟩
  have HP := Hid.mk (AP.new hp (by decide))
  have K1 := Hid.mk k1
  obtain ⟨d0, d1, d2, d3, d4⟩ := hp.cells
  have HC := Hid.mk (pushP_any HP.out ltB none 0 (ReadsR.nil 1 w1) (lok_of (by decide) (i64_lit (by decide)) (fun z hz => by simp [ltB] at hz)))
  clear hp k1 HN
  go_wp2_with fail
  refine HC.out.mono ?_
  rintro e w2 ⟨rfl, hp2, k2⟩
  have he : pushE (newA [97]).inb.length ltB = 0 := by rfl
  rw [he]
  have HP2 : Hid (AP w w2 p pj pi po acB) := Hid.mk hp2
  have hlt : p < w1.heap.size ∧ w.heap.size ≤ pi := by
    obtain ⟨v, q1, -, -⟩ := HP.out
    exact ⟨lt_of_block q1.box, q1.hi⟩
  have K2 : Hid (Kept [] w w2) := Hid.mk (K1.out.trans k2 (fun x hx => .inr (by simp at hx; omega)))
  clear hp2 k2 HC d0 d1 d2 d3 d4 HP he
  go_wp2_with fail
  obtain ⟨W3, e3, k3, hz3, hb3⟩ := box1 w2 (.cells #[.int .i64 5, .int .i64 0, .int .i64 3, .int .i64 0] 45)
  rw [e3]
  have K3 : Hid (Kept [] w W3) := Hid.mk (K2.out.then k3)
  have hC := take10 (HGl.out.kept K3.out) (HP2.out.kept0 k3) (B := 0) (V := 0) ⟨fun y hy => by simp [acB] at hy, Nat.le_refl _⟩ (by omega) (by omega) (pg := pgB) (now := 0) ⟨ReadsR.nil 1 W3, prog_fresh (C := pgB.code) hb3 (by decide)⟩ (by simp [pgB]) okpB (i64_lit (by decide))
  rw [takeB] at hC
  refine hC.mono ?_
  rintro e w4 ⟨v4, rfl, ⟨tv, rfl, q1, -⟩, hap, k4⟩
  obtain ⟨at', ct', rfl, -, -⟩ := q1.form
  obtain ⟨v5, q5, -, g5⟩ := hap
  have hlt5 := lt_of_block q5.box
  obtain ⟨W5, e5, k5, hz5, hb5⟩ := box1 w4 (.cells #[.bool true, .bool false, .int .i64 0, .int .i64 2, .slice at' 0 ct'] 41)
  have q6 := q5.kept0 k5
  obtain ⟨x0, x1, x2, x3, x4⟩ := cells5 hb5
  obtain ⟨d0, d1, d2, d3, d4⟩ := q6.cells
  have K5 : Hid (Kept [] w W5) := Hid.mk ((K3.out.trans k4 (fun x hx => by
    have h1 := HP2.out.choose_spec.1
    have := h1.hp; have := h1.hj; have := h1.hi; have := h1.ho
    right
    simp at hx
    rcases hx with rfl | rfl | rfl | rfl <;> omega)).then k5)
  have HSt : Hid (Calls Tryd.prog 14 #[Ptr pj] W5 fun e w' => e = .returned (.agg #[.int .i64 4, .int .i64 0, .int .i64 0, .int .i64 0, .int .i64 0, .int .i64 0, .int .i64 0, .int .i64 0]) ∧ Kept [] W5 w') := Hid.mk (state18 q6.j g5.j.reg)
  have HP6 := Hid.mk q6
  clear q1 q5 q6 g5 hC hb5 k4 k5 hz5 hz3 hb3 k3 e3
  dsimp only [Oval]
  rw [show (rowT ([] : List Tm)).length = 0 from rfl]
  go_wp2_with fail
  refine HSt.out.mono ?_
  rintro e w6 ⟨rfl, k6⟩
  have q7 := HP6.out.kept0 k6
  obtain ⟨qs, hB, hq⟩ := q7.i
  have hq0 : qs = [] := List.map_eq_nil_iff.1 hq
  subst hq0
  obtain ⟨d0', d1', d2', d3', d4'⟩ := q7.cells
  have HLn := Hid.mk (len21 hB)
  have hix : ∀ W : World, (Instr.index 58 (.agg #[.int .i64 4, .int .i64 0, .int .i64 0, .int .i64 0, .int .i64 0, .int .i64 0, .int .i64 0, .int .i64 0]) (.int .i64 0)).run Tryd.prog W = .ok (.int .i64 4) W := fun W => index29 (A := [4, 0, 0, 0, 0, 0, 0, 0]) (i := 0) (x := 4) rfl rfl W
  have K6 := Hid.mk (K5.out.then k6)
  clear k6 q7 hB hq d0 d1 d2 d3 d4
  go_wp2_with fail
  refine HLn.out.mono ?_
  rintro e w7 ⟨rfl, rfl⟩
  go_wp2_with fail
  go_ret
  exact ⟨rfl, K6.out⟩
end
end Go.Proofs.YtngnenbidpojeaaDoor
