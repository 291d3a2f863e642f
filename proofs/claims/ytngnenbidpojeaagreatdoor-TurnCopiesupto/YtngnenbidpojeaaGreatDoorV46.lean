import Derived.Deep.RegionHeld3
import Derived.Deep.RegionLaw
import Derived.Test.YtngnenbidpojeaaGreatDoorV19
import Derived.Test.YtngnenbidpojeaaGreatDoorV20
import Derived.Test.YtngnenbidpojeaaGreatDoorV25
import Derived.Test.YtngnenbidpojeaaGreatDoorV28
import Derived.Test.YtngnenbidpojeaaGreatDoorV29
import Derived.Test.YtngnenbidpojeaaGreatDoorV30
import Derived.Test.YtngnenbidpojeaaGreatDoorV31
import Derived.Test.YtngnenbidpojeaaGreatDoorV33
import Derived.Test.YtngnenbidpojeaaGreatDoorV34
import Derived.Test.YtngnenbidpojeaaGreatDoorV35
import Derived.Test.YtngnenbidpojeaaGreatDoorV41
import Derived.Test.YtngnenbidpojeaaGreatDoorV44
import Derived.Test.YtngnenbidpojeaaGreatDoorV45
/-
  TurnLetters' walk.
-/
namespace Go.Proofs.YtngnenbidpojeaaGreatDoor
set_option maxRecDepth 100000
open Go.RowKit
set_option linter.unusedVariables false
/-- What an actor has at first, as it came in. -/
structure StIn (w : World) (sv : Value) (ls ps : List Lq) (ts : List (List UInt8)) (es : List Ep) (tr : Int) : Prop where
  form : ∃ a1 n1 c1 a2 n2 c2 a3 n3 c3 x4, sv = .agg #[.slice a1 n1 c1, .slice a2 n2 c2, .slice a3 n3 c3, x4, .int .i64 tr] ∧ LetsIn w (.slice a1 n1 c1) ls ∧ LetsIn w (.slice a2 n2 c2) ps ∧ TextsIn w (.slice a3 n3 c3) ts ∧ EvsIn w x4 es
  size : wL ls + wL ps + wT ts ≤ 2000000
  tr64 : I64 tr
theorem Both.ap {w0 w : World} {P : Pt} {v u : Value} {a : Ac} (T : Both w0 w P a.tries v a.tries u a a) (hv : PoiO w v a.poi) : AP w0 w P.p P.j P.i P.o a := ⟨v, T.pa, hv, T.ga⟩
theorem Both.af {w0 w : World} {P : Pt} {v u : Value} {a : Ac} (T : Both w0 w P a.tries v a.tries u a a) (hu : PoiO w u a.poi) : AF w0 w P.f P.fj P.fi P.fo a := ⟨u, T.fa, hu, T.gb⟩
section
variable {w : World}
end
end Go.Proofs.YtngnenbidpojeaaGreatDoor
/-
  Outcomes: as the document has them; held against one another.
-/
namespace Go.Proofs.YtngnenbidpojeaaGreatDoor
set_option maxRecDepth 100000
open Go.RowKit
set_option linter.unusedVariables false
theorem results_one {P : Program} {fn : Func} {p : Tmp} {ty : TypeId} (h : fn.results = #[.cell p ty]) (tmps : Array Value) (w : World) (g : Nat) (tt : TypeId) (cs : Array Value) (fr : Nat × Nat) (d : TypeDesc)
    (hp : tmps.getD p undef = .pointer (some ⟨g, 0, none⟩)) (hg : w.heap[g]? = some (.cells cs tt fr)) (hu : P.underlying ty = some d) (hd : (match d with | .struct _ | .array _ _ => true | _ => false) = true) (hi : (P.info? ty).map (·.size) = some cs.size) :
    (results fn tmps).run P w = .ok (.agg cs) w := by
  have hp' : tmps[p]?.getD undef = .pointer (some ⟨g, 0, none⟩) := by simpa using hp
  simp [results, h, hp', asAddr, run_loadVar_row w g tt ty cs fr d hg hu hd hi]
section
variable {w : World}
set_option maxHeartbeats 4000000 in
theorem sameOut13 {n n' : Nat} {v v' : Value} {o : Oc} (h : IsOc n w v o) (h' : IsOc n' w v' o) : Calls Tryz.prog 13 #[v, v'] w fun e w' => e = .returned (.bool true) ∧ Kept [] w w' := by
  obtain ⟨tv, rfl, q1, -⟩ := h
  obtain ⟨tv', rfl, q1', -⟩ := h'
  obtain ⟨a, c, rfl, -, -⟩ := q1.form
  obtain ⟨a', c', rfl, -, -⟩ := q1'.form
  rw [rowT_length] at *
  obtain ⟨W0, e0, k0, hz0, hb0, hb1⟩ := box2 w (.cells #[.bool o.done, .bool o.poi, .int .i64 o.failed, .int .i64 (o.steps : Int), .slice a o.tm.length c] 48) (.cells #[.bool o.done, .bool o.poi, .int .i64 o.failed, .int .i64 (o.steps : Int), .slice a' o.tm.length c'] 48)
  have HC := Hid.mk (same24 (q1.keep k0) (q1'.keep k0))
  have HK := Hid.mk k0
  obtain ⟨x0, x1, x2, x3, x4⟩ := cells5 hb0
  obtain ⟨y0, y1, y2, y3, y4⟩ := cells5 hb1
  show Calls Tryz.prog 13 #[.agg #[.bool o.done, .bool o.poi, .int .i64 o.failed, .int .i64 (o.steps : Int), .slice a o.tm.length c], .agg #[.bool o.done, .bool o.poi, .int .i64 o.failed, .int .i64 (o.steps : Int), .slice a' o.tm.length c']] w _
  generalize o.tm.length = m at *
  generalize o.done = d at *
  generalize o.poi = p at *
  generalize o.failed = f at *
  generalize o.steps = k at *
  clear q1 q1' k0 hz0 hb0 hb1
  go_enter Tryz.func13, Tryz.ntmps13
  go_wp2_with fail
  refine HC.out.mono ?_
  rintro e w1 ⟨rfl, k1⟩
  go_wp2_with fail
  go_ret
  exact ⟨rfl, HK.out.then k1⟩
set_option maxHeartbeats 4000000 in
theorem ours14 {n : Nat} {v : Value} {o : Oc} (h : IsOc n w v o) (hl : o.tm.length ≤ 900) : Calls Tryz.prog 14 #[v] w fun e w' => ∃ v', e = .returned v' ∧ IsOc w.heap.size w' v' o ∧ Kept [] w w' := by
  obtain ⟨tv, rfl, q1, -⟩ := h
  obtain ⟨a, c, rfl, -, -⟩ := q1.form
  rw [rowT_length] at *
  obtain ⟨W0, e0, k0, hz0, hb0, hb1⟩ := box2 w (.cells #[.bool o.done, .bool o.poi, .int .i64 o.failed, .int .i64 (o.steps : Int), .slice a o.tm.length c] 39) (.cells #[.bool false, .bool false, .int .i64 0, .int .i64 0, .slice none 0 0] 48)
  have HC : Hid (∀ W, Kept [] W0 W → Calls Tryz.prog 43 #[.slice a o.tm.length c] W fun e w' => ∃ a' c', e = .returned (.slice a' o.tm.length c') ∧ Out 193 5 W w' (.slice a' o.tm.length c') (rowT o.tm)) := Hid.mk fun W k => timers25 (q1.keep (k0.then k)) hl
  have HK := Hid.mk k0
  have HB1 := Hid.mk hb1
  have HS : Hid (∀ V, Kept [] W0 V → V.cell? ⟨w.heap.size, 0, none⟩ = some (.bool o.done) ∧ V.cell? ⟨w.heap.size, 1, none⟩ = some (.bool o.poi) ∧ V.cell? ⟨w.heap.size, 2, none⟩ = some (.int .i64 o.failed) ∧ V.cell? ⟨w.heap.size, 3, none⟩ = some (.int .i64 (o.steps : Int)) ∧ V.cell? ⟨w.heap.size, 4, none⟩ = some (.slice a o.tm.length c)) := Hid.mk fun V k => cells5 (k.keeps hb0 (by simp))
  have HP : Hid (∀ V a' c', Kept [] W0 V → Out 193 5 W0.drew V (.slice a' o.tm.length c') (rowT o.tm) → ∃ W8, ((((V.setCell ⟨w.heap.size + 1, 0, none⟩ (.bool o.done)).setCell ⟨w.heap.size + 1, 1, none⟩ (.bool o.poi)).setCell ⟨w.heap.size + 1, 2, none⟩ (.int .i64 o.failed)).setCell ⟨w.heap.size + 1, 3, none⟩ (.int .i64 (o.steps : Int))).setCell ⟨w.heap.size + 1, 4, none⟩ (.slice a' o.tm.length c') = W8 ∧ W8.heap[w.heap.size + 1]? = some (.cells #[.bool o.done, .bool o.poi, .int .i64 o.failed, .int .i64 (o.steps : Int), .slice a' o.tm.length c'] 48 (0, 0)) ∧ IsOc w.heap.size W8 (.agg #[.bool o.done, .bool o.poi, .int .i64 o.failed, .int .i64 (o.steps : Int), .slice a' o.tm.length c']) o ∧ Kept [] w W8 ∧ W8.cell? ⟨w.heap.size, 0, none⟩ = some (.bool o.done) ∧ W8.cell? ⟨w.heap.size, 1, none⟩ = some (.bool o.poi) ∧ W8.cell? ⟨w.heap.size, 2, none⟩ = some (.int .i64 o.failed) ∧ W8.cell? ⟨w.heap.size, 3, none⟩ = some (.int .i64 (o.steps : Int)) ∧ W8.cell? ⟨w.heap.size, 4, none⟩ = some (.slice a o.tm.length c)) := Hid.mk fun V a' c' k hO => by
    obtain ⟨W8, e8, k8, h8, -⟩ := put5 (k.keeps hb1 (by simp)) (.bool o.done) (.bool o.poi) (.int .i64 o.failed) (.int .i64 (o.steps : Int)) (.slice a' o.tm.length c')
    have hz : W0.drew.heap.size = w.heap.size + 2 := hz0
    refine ⟨W8, e8, h8, ⟨_, rfl, (hO.own.reads (wideT _)).kept k8 (fun g hg hm => by have := hO.new g hg; simp at hm; omega), fun g hg => by have := hO.new g hg; omega⟩, (k0.then k).trans k8 (fun x hx => .inr (by simp at hx; omega)), ?_⟩
    exact cells5 (k8.keeps (k.keeps hb0 (by simp)) (by simp))
  have KD : Hid (Kept [] W0 W0.drew) := Hid.mk (Kept.refl [] W0).drew
  have S0 := HS.out _ KD.out
  show Calls Tryz.prog 14 #[.agg #[.bool o.done, .bool o.poi, .int .i64 o.failed, .int .i64 (o.steps : Int), .slice a o.tm.length c]] w _
  generalize o.tm.length = m at *
  clear q1 k0 hz0 hb0 hb1
  go_enter Tryz.func14, Tryz.ntmps14
  go_wp2_with fail
  go_region_held3 (fun V => V.cell? ⟨w.heap.size, 0, none⟩ = some (.bool o.done) ∧ V.cell? ⟨w.heap.size, 1, none⟩ = some (.bool o.poi) ∧ V.cell? ⟨w.heap.size, 2, none⟩ = some (.int .i64 o.failed) ∧ V.cell? ⟨w.heap.size, 3, none⟩ = some (.int .i64 (o.steps : Int)) ∧ V.cell? ⟨w.heap.size, 4, none⟩ = some (.slice a m c)) (first | with_reducible exact S0 | with_reducible exact S1 | with_reducible exact S8) (first | (go_at_call 43; refine (HC.out _ KD.out).mono ?_; rintro e w1 ⟨a', c', rfl, hO⟩; have K1 : Hid (Kept [] W0 w1) := Hid.mk (KD.out.then hO.kept); have S1 := HS.out _ K1.out; obtain ⟨W8, e8, h8, hoc, k8, S8⟩ := HP.out w1 a' c' K1.out hO; have HE := Hid.mk (And.intro h8 (And.intro hoc k8)); obtain ⟨g0, g1, g2, g3, g4⟩ := free5 (K1.out.keeps HB1.out (by simp)); obtain ⟨y0, y1, y2, y3, y4⟩ := cells5 (K1.out.keeps HB1.out (by simp)); clear hO h8 hoc k8))
  go_wp2_with fail
  refine bodyPost_ret (results_one (p := 2) (ty := 48) rfl _ _ (w.heap.size + 1) 48 _ (0, 0) _ rfl HE.out.1 Tryz.underlying48 rfl (by kernel_rfl)) rfl ?_
  exact ⟨_, rfl, HE.out.2.1, HE.out.2.2⟩
end
end Go.Proofs.YtngnenbidpojeaaGreatDoor
