import Derived.Test.YtngnenbidpojeaaGreatDoorRows
import Derived.Test.YtngnenbidpojeaaGreatDoorProg
import Derived.WalkKit
import Derived.Deep.AppendLies
import Derived.Lib.AppendStr
import Derived.Laws.IdiomStrings
import Derived.OneCell
import Derived.KernelRfl
import Derived.WalkLawsBesides
import Derived.WalkSpells
import Derived.Laws.AppendOwnNone
import Derived.Deep.Slices
import Derived.IntWalk
import Derived.Deep.RegionHeld3
import Derived.Laws.Rows
import Derived.Laws.CopyRow
import Derived.WalkSmall
import Derived.Lib.LaidTab
import Derived.Stop.LaidErr
import Derived.Deep.QuietTactic
import Derived.BigQuiet
import Derived.Deep.RegionLaw
import Derived.Deep.DrawnRows
import Derived.Test.YtngnenbidpojeaaGreatDoorT01
import Derived.Test.YtngnenbidpojeaaGreatDoorT02
import Derived.Test.YtngnenbidpojeaaGreatDoorT03
import Derived.Test.YtngnenbidpojeaaGreatDoorT06
import Derived.Test.YtngnenbidpojeaaGreatDoorT13
import Derived.Test.YtngnenbidpojeaaGreatDoorT14
import Derived.Test.YtngnenbidpojeaaGreatDoorT15
import Derived.Test.YtngnenbidpojeaaGreatDoorT16
import Derived.Test.YtngnenbidpojeaaGreatDoorT17
/-
 Fresh of an actor.
-/
namespace Go.Proofs.YtngnenbidpojeaaGreatDoor
set_option maxRecDepth 100000
open Go.RowKit
set_option linter.unusedVariables false
theorem freshA_iff (a : Ac) : freshA a = true ↔ a.j.ver = 0 ∧ a.inb.length = 0 ∧ (a.out.K.isEmpty && a.out.L.isEmpty) = true ∧ a.tries = 0 ∧ a.poi.length = 0 := by
 simp only [freshA, Bool.and_eq_true, decide_eq_true_eq, List.isEmpty_iff, List.length_eq_zero_iff]
 constructor
 ·rintro ⟨⟨⟨⟨⟨h1, h2⟩, h3⟩, h4⟩, h5⟩, h6⟩; exact ⟨h1, h2, ⟨h4, h3⟩, h5, h6⟩
 ·rintro ⟨h1, h2, ⟨h4, h3⟩, h5, h6⟩; exact ⟨⟨⟨⟨⟨h1, h2⟩, h3⟩, h4⟩, h5⟩, h6⟩
section
variable {w w' : World} {p : Nat} {a : Ac}
set_option maxHeartbeats 4000000 in
theorem fresh14 (h : IsAct w p a) : Calls Tryz.prog 54 #[Ptr p] w fun e w' => e = .returned (.bool (freshA a)) ∧ Kept [] w w' := by
 obtain ⟨pj, pi, po, av, cv, qs, ys, ms, h⟩ := h
 have hql := h.ql
 obtain ⟨d0, d1, d2, d3, d4⟩ := h.cells
 have HV := Hid.mk (version19 h.j.isP)
 have HL := Hid.mk (len21 h.i)
 have HS := Hid.mk (sent67 h.o (by rw [h.oy]; exact h.g.out))
 have hys : ys.isEmpty = a.out.L.isEmpty := by rw [← h.oy]; cases ys <;> rfl
 rw [hys] at HS
 rw [hql] at HL
 have HA := Hid.mk h
 have HI := Hid.mk (freshA_iff a)
 generalize freshA a = R at *
 generalize hT : a.tries = t at *
 generalize hM : a.inb.length = n at *
 generalize hPl : a.poi.length = m at *
 generalize hVv : a.j.ver = v at *
 generalize hSs : (a.out.K.isEmpty && a.out.L.isEmpty) = s at *
 have HT := Hid.mk (And.intro hT hPl)
 clear h hT hM hPl hVv hSs hys hql
 have no : ¬ (v = 0 ∧ n = 0 ∧ s = true ∧ t = 0 ∧ m = 0) → Hid (R = false) := fun h' => by
  cases hS : R with
  | false => exact Hid.mk rfl
  | true => exact absurd (HI.out.1 hS) h'
 have yes : (v = 0 ∧ n = 0 ∧ s = true ∧ t = 0 ∧ m = 0) → Hid (R = true) := fun h' => Hid.mk (HI.out.2 h')
 go_enter Tryz.func54, Tryz.ntmps54
 go_wp2_with fail
 refine HV.out.mono ?_
 rintro e w1 ⟨rfl, rfl⟩
 by_cases hv : v = 0
 ·subst hv
  go_wp2_with fail
  refine HL.out.mono ?_
  rintro e w1 ⟨rfl, rfl⟩
  by_cases hn : n = 0
  ·subst hn
   go_wp2_with fail
   refine HS.out.mono ?_
   rintro e w1 ⟨rfl, k1⟩
   obtain ⟨e0, e1, e2, e3, e4⟩ := (HA.out.kept0 k1).cells
   rw [HT.out.1] at e3
   rw [HT.out.2] at e4
   have HK := Hid.mk k1
   clear k1 d0 d1 d2 d3 d4 HV HL HS HA
   cases s with
   | false =>
    have hR := no (by simp)
    clear no yes
    go_wp2_with fail
    go_ret
    rw [hR.out]
    exact ⟨rfl, HK.out⟩
   | true =>
    by_cases ht : t = 0
    ·subst ht
     by_cases hm : m = 0
     ·subst hm
      have hR := yes (by simp)
      clear no yes
      go_wp2_with fail
      go_ret
      rw [hR.out]
      exact ⟨rfl, HK.out⟩
     ·have gm : (((m : Int)) == 0) = false := beq_eq_false_iff_ne.2 (by omega)
      have hR := no (by simp [hm])
      clear no yes
      go_wp2_with fail
      go_ret
      rw [hR.out]
      exact ⟨rfl, HK.out⟩
    ·have gt : (t == 0) = false := beq_eq_false_iff_ne.2 ht
     have hR := no (by simp [ht])
     clear no yes
     go_wp2_with fail
     go_ret
     rw [hR.out]
     exact ⟨rfl, HK.out⟩
  ·have gn : ((n : Int) == 0) = false := beq_eq_false_iff_ne.2 (by omega)
   have hR := no (by simp [hn])
   clear no yes
   go_wp2_with fail
   go_ret
   rw [hR.out]
   exact ⟨rfl, Kept.refl [] _⟩
 ·have gv : ((v : Int) == 0) = false := beq_eq_false_iff_ne.2 (by omega)
  have hR := no (by simp [hv])
  clear no yes
  go_wp2_with fail
  go_ret
  rw [hR.out]
  exact ⟨rfl, Kept.refl [] _⟩
end
structure ActF (w0 w : World) (f : Nat) (a : Ac) (fj fi fo : Nat) (uj ui uo xo : Value) (av : Option Addr) (cv : Nat) (qs : List Lq) (ys : List Yq) (ms : List Lq) : Prop where
 box : w.heap[f]? = some (.cells #[Ptr fj, Ptr fi, Ptr fo, Iv a.tries, .slice av a.poi.length cv] 61 (0, 0))
 j : IsF_J w fj uj a.j
 i : IsF_I w0 w fi ui qs
 iq : qs.map (·.x) = a.inb
 o : IsF w0 w fo uo xo a.out.own a.out.K ys
 oy : ys.map ot = a.out.L
 row : RowQ w (.slice av a.poi.length cv) ms
 vals : ValsQ w ms
 pm : ms.map (·.x) = a.poi
 g : GoodP a
def IsAf (w : World) (f : Nat) (a : Ac) : Prop := ∃ w0 fj fi fo uj ui uo xo av cv qs ys ms, ActF w0 w f a fj fi fo uj ui uo xo av cv qs ys ms
section
variable {w0 w w' : World} {f fj fi fo : Nat} {a : Ac} {uj ui uo xo : Value} {av : Option Addr} {cv : Nat} {qs ms : List Lq} {ys : List Yq}
theorem ActF.kept0 (h : ActF w0 w f a fj fi fo uj ui uo xo av cv qs ys ms) (k : Kept [] w w') : ActF w0 w' f a fj fi fo uj ui uo xo av cv qs ys ms :=
 ⟨k.keeps h.box (by simp), h.j.kept0 k, h.i.kept0 k, h.iq, h.o.kept0 k, h.oy, h.row.kept k (by simp), h.vals.kept0 k, h.pm, h.g⟩
theorem IsAf.kept0 (h : IsAf w f a) (k : Kept [] w w') : IsAf w' f a := by
 obtain ⟨w0, fj, fi, fo, uj, ui, uo, xo, av, cv, qs, ys, ms, h⟩ := h
 exact ⟨w0, fj, fi, fo, uj, ui, uo, xo, av, cv, qs, ys, ms, h.kept0 k⟩
theorem ActF.cells (h : ActF w0 w f a fj fi fo uj ui uo xo av cv qs ys ms) : w.cell? ⟨f, 0, none⟩ = some (Ptr fj) ∧ w.cell? ⟨f, 1, none⟩ = some (Ptr fi) ∧ w.cell? ⟨f, 2, none⟩ = some (Ptr fo) ∧ w.cell? ⟨f, 3, none⟩ = some (Iv a.tries) ∧ w.cell? ⟨f, 4, none⟩ = some (.slice av a.poi.length cv) := by
 have h := h.box
 refine ⟨?_, ?_, ?_, ?_, ?_⟩ <;> (unfold World.cell?; rw [h]; rfl)
theorem ActF.ql (h : ActF w0 w f a fj fi fo uj ui uo xo av cv qs ys ms) : qs.length = a.inb.length := by rw [← h.iq, List.length_map]
theorem ActF.yl (h : ActF w0 w f a fj fi fo uj ui uo xo av cv qs ys ms) : ys.length = a.out.L.length := by rw [← h.oy, List.length_map]
set_option maxHeartbeats 4000000 in
theorem rfresh49 (h : IsAf w f a) : Calls Tryz.prog 55 #[Ptr f] w fun e w' => e = .returned (.bool (freshA a)) ∧ Kept [] w w' := by
 obtain ⟨w0, fj, fi, fo, uj, ui, uo, xo, av, cv, qs, ys, ms, h⟩ := h
 have hql := h.ql
 have hyl := h.yl
 obtain ⟨d0, d1, d2, d3, d4⟩ := h.cells
 have c9 := h.j.ver
 have ci := cell_of_one h.i.box
 obtain ⟨co0, co1, co2⟩ := cells3 h.o.box
 obtain ⟨ai, ni, hui, -, -⟩ := h.i.own.row.form
 obtain ⟨ao, no', huo, -, -⟩ := h.o.ys.row.form
 rw [CY, List.length_map] at huo
 subst hui huo
 obtain ⟨ax, nx, hxo, -, -⟩ := rowK_form h.o.krow
 subst hxo
 have HKy := Hid.mk (keys57 co2 h.o.krow (by have := h.g.out.kn; omega))
 rw [hql] at ci
 rw [hyl] at co1
 have HA := Hid.mk h
 have HI := Hid.mk (freshA_iff a)
 generalize freshA a = R at *
 generalize hT : a.tries = t at *
 generalize hM : a.inb.length = n at *
 generalize hPl : a.poi.length = m at *
 generalize hVv : a.j.ver = v at *
 have HT := Hid.mk (And.intro hT hPl)
 have HI2 : Hid (R = true ↔ v = 0 ∧ n = 0 ∧ a.out.L.length = 0 ∧ a.out.K.length = 0 ∧ t = 0 ∧ m = 0) := Hid.mk (by
  rw [HI.out]
  simp only [Bool.and_eq_true, List.isEmpty_iff, List.length_eq_zero_iff]
  constructor
  ·rintro ⟨h1, h2, ⟨h3, h4⟩, h5, h6⟩; exact ⟨h1, h2, h4, h3, h5, h6⟩
  ·rintro ⟨h1, h2, h4, h3, h5, h6⟩; exact ⟨h1, h2, ⟨h3, h4⟩, h5, h6⟩)
 generalize hLl : a.out.L.length = y at *
 generalize hKk : a.out.K.length = z at *
 have HZ := Hid.mk hKk
 clear h hT hM hPl hVv hql hyl hLl hKk HI
 have no : ¬ (v = 0 ∧ n = 0 ∧ y = 0 ∧ z = 0 ∧ t = 0 ∧ m = 0) → Hid (R = false) := fun h' => by
  cases hS : R with
  | false => exact Hid.mk rfl
  | true => exact absurd (HI2.out.1 hS) h'
 have yes : (v = 0 ∧ n = 0 ∧ y = 0 ∧ z = 0 ∧ t = 0 ∧ m = 0) → Hid (R = true) := fun h' => Hid.mk (HI2.out.2 h')
 go_enter Tryz.func55, Tryz.ntmps55
 by_cases hv : v = 0
 ·subst hv
  by_cases hn : n = 0
  ·subst hn
   by_cases hy : y = 0
   ·subst hy
    go_wp2_with fail
    refine HKy.out.mono ?_
    rintro e w1 ⟨u, rfl, hU, k1⟩
    obtain ⟨au, cu, rfl, -, -⟩ := hU.form
    rw [show (CT (keysL a.out.K)).length = a.out.K.length by simp [CT, keysL], HZ.out]
    obtain ⟨e0, e1, e2, e3, e4⟩ := (HA.out.kept0 k1).cells
    rw [HT.out.1] at e3
    rw [HT.out.2] at e4
    have HK := Hid.mk k1
    clear k1 hU d0 d1 d2 d3 d4 c9 ci co0 co1 co2 HKy HA
    by_cases hz : z = 0
    ·subst hz
     by_cases ht : t = 0
     ·subst ht
      by_cases hm : m = 0
      ·subst hm
       have hR := yes (by simp)
       clear no yes
       go_wp2_with fail
       go_ret
       rw [hR.out]
       exact ⟨rfl, HK.out⟩
      ·have gm : (((m : Int)) == 0) = false := beq_eq_false_iff_ne.2 (by omega)
       have hR := no (by simp [hm])
       clear no yes
       go_wp2_with fail
       go_ret
       rw [hR.out]
       exact ⟨rfl, HK.out⟩
     ·have gt : (t == 0) = false := beq_eq_false_iff_ne.2 ht
      have hR := no (by simp [ht])
      clear no yes
      go_wp2_with fail
      go_ret
      rw [hR.out]
      exact ⟨rfl, HK.out⟩
    ·have gz : ((z : Int) == 0) = false := beq_eq_false_iff_ne.2 (by omega)
     have hR := no (by simp [hz])
     clear no yes
     go_wp2_with fail
     go_ret
     rw [hR.out]
     exact ⟨rfl, HK.out⟩
   ·have gy : ((y : Int) == 0) = false := beq_eq_false_iff_ne.2 (by omega)
    have hR := no (by simp [hy])
    clear no yes
    go_wp2_with fail
    go_ret
    rw [hR.out]
    exact ⟨rfl, Kept.refl [] _⟩
  ·have gn : ((n : Int) == 0) = false := beq_eq_false_iff_ne.2 (by omega)
   have hR := no (by simp [hn])
   clear no yes
   go_wp2_with fail
   go_ret
   rw [hR.out]
   exact ⟨rfl, Kept.refl [] _⟩
 ·have gv : ((v : Int) == 0) = false := beq_eq_false_iff_ne.2 (by omega)
  have hR := no (by simp [hv])
  clear no yes
  go_wp2_with fail
  go_ret
  rw [hR.out]
  exact ⟨rfl, Kept.refl [] _⟩
end
theorem ownsJ_one (W : World) (m : Int) : OwnsJ (W.alloc (.cells #[.int .i64 m] 2)) (.slice (some ⟨W.heap.size, 0, none⟩) 1 1) [m] :=
 World.ownsRow_lit (base := 0) (e := 2) (size := 1) W #[.int .i64 m] 1 (Nat.zero_le _) (by decide) rfl
theorem getD_at {α : Type} {l : List α} {k : Nat} {x : α} (h : l[k]? = some x) (d : α) : l.getD k d = x := by simp [List.getD, h]
theorem ownL_set {w0 w : World} {v x : Value} {qs : List Lq} {p i : Nat} {cs : Array Value} {t : TypeId} (h : OwnL w0 w v qs) (hb : w.heap[p]? = some (.cells cs t (0, 0))) (h1 : t ≠ 81) (h2 : t ≠ 2) : OwnL w0 (w.setCell ⟨p, i, none⟩ x) v qs :=
 h.kept ((Kept.refl [p] w).setCell (p := ⟨p, i, none⟩) (.inl (by simp)) x) fun y hy => by
  simp at hy
  subst hy
  exact ⟨ownsR_ne h.own hb h1, fun q hq => ownsJ_ne (h.args q hq) hb h2⟩
section
variable {w : World}
end
section
variable {w0 w w' : World} {p pj pi po : Nat} {a : Ac} {P : Pt} {v u : Value}
theorem PA.act (h : PA w0 w p pj pi po a.tries v a) (hv : PoiAt w v a.poi) (g : GoodP a) : IsAct w p a := by
 obtain ⟨h1, h2, ⟨qs, h3, h4⟩, ⟨ys, h5, h6⟩, -⟩ := h
 obtain ⟨ms, h7, h8, h9⟩ := hv
 obtain ⟨av, cv, rfl, -, -⟩ := h7.form
 have e : ms.length = a.poi.length := by rw [← h9, List.length_map]
 rw [e] at h1 h7
 exact ⟨pj, pi, po, av, cv, qs, ys, ms, h1, h2, h3, h4, h5, h6, h7, h8, h9, g⟩
theorem FA.act {f fj fi fo : Nat} (h : FA w0 w f fj fi fo a.tries v a) (hv : PoiAt w v a.poi) (g : GoodP a) : IsAf w f a := by
 obtain ⟨h1, ⟨uj, h2, -⟩, ⟨ui, qs, h3, h4⟩, ⟨uo, xo, ys, h5, h6⟩, -⟩ := h
 obtain ⟨ms, h7, h8, h9⟩ := hv
 obtain ⟨av, cv, rfl, -, -⟩ := h7.form
 have e : ms.length = a.poi.length := by rw [← h9, List.length_map]
 rw [e] at h1 h7
 exact ⟨w0, fj, fi, fo, uj, ui, uo, xo, av, cv, qs, ys, ms, h1, h2, h3, h4, h5, h6, h7, h8, h9, g⟩
end
theorem gOps : Tryz.prog.globalNamed "reeve/code.operations" = some 0 := by kernel_rfl
structure Glob (w : World) : Prop where
 ops : ∀ (i : Nat) (s : List UInt8) (k : Nat), words[i]? = some (s, k) → w.cell? ⟨0, 2 * i, none⟩ = some (.string ⟨s.toArray⟩) ∧ w.cell? ⟨0, 2 * i + 1, none⟩ = some (.int .i64 k)
theorem cells_of_ops {w : World} {fuel : Nat} {cs : List Value} {p : List MemPlace} {zs : List (List UInt8 × Nat)}
  (h : DataW.trod (fun _ => ()) Tryz.prog w 0 (fun _ => true) false fuel 226 cs = some (.agg (zs.map fun z => .agg [.lit (.string z.1), .lit (.int .i64 z.2)]), p)) :
  ∀ (i : Nat) (s : List UInt8) (k : Nat), zs[i]? = some (s, k) → cs[2 * i]? = some (.string ⟨s.toArray⟩) ∧ cs[2 * i + 1]? = some (.int .i64 k) := by
 have hce : Tryz.prog.cellsOf 225 = 2 := by kernel_rfl
 have hct : Tryz.prog.cellsOf 226 = 48 := by kernel_rfl
 have hc9 : Tryz.prog.cellsOf 9 = 1 := by kernel_rfl
 have hc3 : Tryz.prog.cellsOf 3 = 1 := by kernel_rfl
 cases fuel with
 | zero => simp [DataW.trod] at h
 | succ fuel =>
  simp only [DataW.trod, Tryz.underlying226, hce, hct] at h
  split at h
  ·rename_i hl
   obtain ⟨xs, hm, hx⟩ := Option.map_eq_some_iff.1 h
   have hxs : xs.map (·.1) = zs.map fun z => (DataW.agg [.lit (.string z.1), .lit (.int .i64 z.2)] : DataW Unit) := by
    have := congrArg Prod.fst hx
    simpa using this
   have hxl : xs.length = 24 := by simpa using Lib.mapM_length hm
   intro i s k hz
   have hi : i < 24 := by
    have := congrArg List.length hxs
    simp at this
    have := (List.getElem?_eq_some_iff.1 hz).1
    omega
   obtain ⟨b, hb, hf⟩ := Lib.mapM_at hm i i (by simp [hi])
   obtain ⟨ys, n, hn, rfl, hlen, hys, hall⟩ := DataW.trod_struct Tryz.underlying225 hf
   have h1 : (xs.map (·.1))[i]? = some (DataW.agg (ys.map (·.1))) := by simp [hb]
   rw [hxs] at h1
   simp only [List.getElem?_map, hz, Option.map_some, Option.some.injEq, DataW.agg.injEq] at h1
   have f0 := hall 0 ⟨"word", 9, 0, false, "", "reeve/code", 0⟩ rfl
   have f1 := hall 1 ⟨"takes", 3, 1, false, "", "reeve/code", 16⟩ rfl
   have hy2 : ys.length = 2 := hys
   obtain ⟨y0, y1, rfl⟩ : ∃ y0 y1, ys = [y0, y1] := by
    match ys, hy2 with
    | [a, b], _ => exact ⟨a, b, rfl⟩
   rw [hc9] at f0
   rw [hc3] at f1
   obtain ⟨s0, e0, r0, -⟩ := DataW.trod_string Tryz.underlying9 f0
   obtain ⟨k0, e1, r1, -⟩ := DataW.trod_int Tryz.underlying3 f1
   subst r0 r1
   simp only [List.map_cons, List.map_nil, List.cons.injEq, DataW.lit.injEq, Lit.string.injEq, Lit.int.injEq, true_and, and_true] at h1
   obtain ⟨q0, q1⟩ := h1
   subst q0
   constructor
   ·have := congrArg (·[0]?) e0
    simp [List.getElem?_drop] at this
    rw [Nat.mul_comm, this]
   ·have := congrArg (·[0]?) e1
    simp [List.getElem?_drop] at this
    rw [Nat.mul_comm, this, q1]
  ·cases h
theorem glob_of {W : World} (h0 : laidMet Tryz.prog [("reeve/code.operations", Rows.laid_reeve_code_operations)] W) : Glob W := by
 obtain ⟨ps, ⟨g, t, cs, fuel, p, q, hg, ht, hv, hd, _, _⟩, _⟩ := h0
 obtain rfl := Option.some.inj (gOps.symm.trans hg)
 obtain rfl := Option.some.inj ((show (Tryz.prog.globals[0]?).map (·.type) = some 226 by kernel_rfl).symm.trans ht)
 have := cells_of_ops (zs := words) hd
 refine ⟨fun i s k hz => ?_⟩
 obtain ⟨c1, c2⟩ := this i s k hz
 rw [Array.getElem?_toList] at c1 c2
 exact ⟨(World.var?_cell gOps hv (2 * i)).trans c1, (World.var?_cell gOps hv (2 * i + 1)).trans c2⟩
theorem Glob.kept {w w' : World} (h : Glob w) (k : Kept [] w w') : Glob w' := ⟨fun i s n hz => ⟨k.cell_eq (h.ops i s n hz).1, k.cell_eq (h.ops i s n hz).2⟩⟩
def rowN (N : List (List UInt8)) : List (List Value) := N.map fun s => [.string ⟨s.toArray⟩]
def rowI (C : List In) : List (List Value) := C.map fun x => [.int .i64 x.op, .int .i64 x.arg]
theorem rowN_length (N : List (List UInt8)) : (rowN N).length = N.length := by simp [rowN]
theorem rowI_length (C : List In) : (rowI C).length = C.length := by simp [rowI]
theorem wideN (N : List (List UInt8)) : Wide 1 (rowN N) := fun r hr => by
 obtain ⟨s, -, rfl⟩ := List.mem_map.1 hr
 exact ⟨rfl, fun u hu => by simp at hu; subst hu; rfl⟩
theorem wideI (C : List In) : Wide 2 (rowI C) := fun r hr => by
 obtain ⟨s, -, rfl⟩ := List.mem_map.1 hr
 exact ⟨rfl, fun u hu => by simp at hu; rcases hu with rfl | rfl <;> rfl⟩
structure IsP_N (w : World) (v u : Value) (p : Pg) : Prop where
 names : ReadsR 1 w v (rowN p.names)
 code : ReadsR 2 w u (rowI p.code)
theorem ReadsR.keep {k : Nat} {w w' : World} {v : Value} {rs : List (List Value)} (h : ReadsR k w v rs) (kk : Kept [] w w') : ReadsR k w' v rs := h.kept kk (by simp)
theorem IsP_N.keep {w w' : World} {v u : Value} {p : Pg} (h : IsP_N w v u p) (k : Kept [] w w') : IsP_N w' v u p := ⟨h.names.keep k, h.code.keep k⟩
theorem IsP_N.form {w : World} {v u : Value} {p : Pg} (h : IsP_N w v u p) : ∃ a c b d, v = .slice a p.names.length c ∧ u = .slice b p.code.length d ∧ p.names.length ≤ 9223372036854775807 ∧ p.code.length ≤ 9223372036854775807 := by
 obtain ⟨a, c, e, h1, h2⟩ := h.names.form
 obtain ⟨b, d, e', h1', h2'⟩ := h.code.form
 rw [rowN_length] at e h1
 rw [rowI_length] at e' h1'
 exact ⟨a, c, b, d, e, e', by omega, by omega⟩
theorem names_at {w : World} {a : Option Addr} {n c : Nat} {N : List (List UInt8)} (h : ReadsR 1 w (.slice a n c) (rowN N)) {j : Nat} (hj : j < N.length) : ∃ b o, a = some ⟨b, o, none⟩ ∧ w.cell? ⟨b, o + j, none⟩ = some (.string ⟨N[j].toArray⟩) := by
 obtain ⟨b, o, c', e, hc⟩ := h.at j [.string ⟨N[j].toArray⟩] (by simp [rowN, hj])
 simp only [Value.slice.injEq] at e
 refine ⟨b, o, e.1, ?_⟩
 have := hc 0 _ rfl
 simpa using this
theorem code_at {w : World} {a : Option Addr} {n c : Nat} {C : List In} (h : ReadsR 2 w (.slice a n c) (rowI C)) {j : Nat} (hj : j < C.length) : ∃ b o, a = some ⟨b, o, none⟩ ∧ w.cell? ⟨b, o + j * 2, none⟩ = some (.int .i64 C[j].op) ∧ w.cell? ⟨b, o + j * 2 + 1, none⟩ = some (.int .i64 C[j].arg) := by
 obtain ⟨b, o, c', e, hc⟩ := h.at j [.int .i64 C[j].op, .int .i64 C[j].arg] (by simp [rowI, hj])
 simp only [Value.slice.injEq] at e
 exact ⟨b, o, e.1, hc 0 _ rfl, hc 1 _ rfl⟩
theorem op_at {w : World} (h : Glob w) {i : Nat} (hi : i < 24) : ∃ s k, words[i]? = some (s, k) ∧ k ≤ 5 ∧ w.cell? ⟨0, 2 * i, none⟩ = some (.string ⟨s.toArray⟩) ∧ w.cell? ⟨0, 2 * i + 1, none⟩ = some (.int .i64 (k : Int)) := by
 have hl : i < words.length := hi
 have e : words[i]? = some (words[i].1, words[i].2) := by rw [List.getElem?_eq_getElem hl]
 have hk : ∀ x ∈ words, x.2 ≤ 5 := by decide
 exact ⟨_, _, e, hk _ (List.getElem_mem hl), h.ops i _ _ e⟩
def choiceN (nn nc k : Nat) : Int := if k = 2 then 8 else if k = 3 then 4 else if k = 4 then (nc : Int) + 1 else if k = 5 then (nn : Int) else 1
theorem choice_most {nn nc k : Nat} (hk : k ≤ 5) (h1 : k ≠ 1) : choiceN nn nc k = mostI nn nc k + 1 := by
 unfold choiceN mostI
 match k, hk, h1 with
 | 0, _, _ => rfl
 | 2, _, _ => rfl
 | 3, _, _ => rfl
 | 4, _, _ => rfl
 | 5, _, _ => simp
theorem okI_at {nn nc i k : Nat} {s : List UInt8} {x : In} (ho : x.op = (i : Int)) (h : words[i]? = some (s, k)) (hk : k ≤ 5) : okI nn nc x = (decide (k = 1) || (decide (0 ≤ x.arg) && decide (x.arg < choiceN nn nc k))) := by
 unfold okI
 rw [ho, Int.toNat_natCast, h]
 dsimp only
 rw [show decide (0 ≤ (i : Int)) = true by simp, Bool.true_and]
 by_cases h1 : k = 1
 ·subst h1; rfl
 ·rw [choice_most hk h1]
  congr 2
  simp
  omega
theorem okI_out {nn nc : Nat} {x : In} (h : x.op < 0 ∨ 24 ≤ x.op) : okI nn nc x = false := by
 unfold okI
 rcases h with h | h
 ·split
  ·simp; omega
  ·rfl
 ·rw [List.getElem?_eq_none (by rw [words_length]; omega)]
theorem Kept.then {a b c : World} (h : Kept [] a b) (k : Kept [] b c) : Kept [] a c := h.trans k (by simp)
theorem rt22 : RowT 22 9 1 16 (.string ⟨#[]⟩) := ⟨Tryz.underlying22, by kernel_rfl, rfl, by omega, by omega⟩
theorem rt31 : RowT 42 83 2 16 (.agg #[.int .i64 0, .int .i64 0]) := ⟨Tryz.underlying42, by kernel_rfl, rfl, by omega, by omega⟩
structure Out (e : TypeId) (k : Nat) (w wr : World) (u : Value) (rs : List (List Value)) : Prop where
 own : OwnsR e k wr u rs
 new : ∀ g, u.ownBlock = some g → w.heap.size ≤ g
 kept : Kept [] w wr
section
variable {T e : TypeId} {k b : Nat} {z : Value} {w wr w2 : World} {u : Value} {rs : List (List Value)}
theorem Out.nil (h : Kept [] w wr) : Out e k w wr (.slice none 0 0) [] := ⟨OwnsR.nil e k wr, fun g hg => by simp [Value.ownBlock] at hg, h⟩
theorem Out.keep (h : Out e k w wr u rs) (k2 : Kept [] wr w2) : Out e k w w2 u rs := ⟨h.own.kept k2 (by simp), h.new, h.kept.then k2⟩
theorem Out.form (h : Out e k w wr u rs) : ∃ a c, u = .slice a rs.length c ∧ rs.length ≤ c ∧ c ≤ 9223372036854775807 := h.own.form
theorem Out.more (R : RowT T e k b z) (h : Out e k w wr u rs) (cs : List Value) (hc : cs.length = k) (h1 : ∀ x ∈ cs, x.oneCell' = true) (hl : rs.length ≤ 900000) (t : TypeId) (fr : Nat × Nat) (ty : TypeId) :
  ∃ ad c w2, (Builtin.append_ #[T, T] ty #[u, .slice (some ⟨wr.heap.size, 0, none⟩) 1 1]).run Tryz.prog (wr.alloc (.cells cs.toArray t fr)) = .ok (.slice ad (rs.length + 1) c) w2 ∧ Out e k w w2 (.slice ad (rs.length + 1) c) (rs ++ [cs]) := by
 obtain ⟨ad, c, w2, hrun, hO, k2, hN⟩ := append_rowR R h.own cs hc h1 hl t fr ty
 refine ⟨ad, c, w2, hrun, hO, fun g hg => ?_, h.kept.trans k2 (fun x hx => .inr (h.new x (by simpa using hx)))⟩
 rcases hN g hg with h3 | h3
 ·exact h.new g h3
 ·exact Nat.le_trans h.kept.size h3
end
structure PB (T e : TypeId) (w wr : World) (g : Nat) (v u : Value) (p : Pg) : Prop where
 box : wr.heap[g]? = some (.cells #[v, u] T (0, 0))
 names : Out 9 1 w wr v (rowN p.names)
 code : Out e 2 w wr u (rowI p.code)
 hg : w.heap.size ≤ g
section
variable {T e : TypeId} {w wr w2 : World} {g : Nat} {v u : Value} {p : Pg}
theorem PB.kept (h : PB T e w wr g v u p) : Kept [] w wr := h.names.kept
theorem PB.keep (h : PB T e w wr g v u p) (k : Kept [] wr w2) : PB T e w w2 g v u p := ⟨k.keeps h.box (by simp), h.names.keep k, h.code.keep k, h.hg⟩
theorem PB.c0 (h : PB T e w wr g v u p) : wr.cell? ⟨g, 0, none⟩ = some v := by simp [World.cell?, h.box]
theorem PB.c1 (h : PB T e w wr g v u p) : wr.cell? ⟨g, 1, none⟩ = some u := by simp [World.cell?, h.box]
theorem PB.isP (h : PB T e w wr g v u p) : IsP_N wr v u p := ⟨h.names.own.reads (wideN _), h.code.own.reads (wideI _)⟩
theorem PB.forms (h : PB T e w wr g v u p) : ∃ a c b d, v = .slice a p.names.length c ∧ u = .slice b p.code.length d := by
 obtain ⟨a, c, b, d, h1, h2, -⟩ := h.isP.form
 exact ⟨a, c, b, d, h1, h2⟩
theorem PB.addCode {T' : TypeId} {b : Nat} {z : Value} (R : RowT T' e 2 b z) (he : e ≠ 9) (hTe : T ≠ e) (hT : T ≠ 9) (h : PB T e w wr g v u p) (hl : p.code.length ≤ 900000) (x : In) (t : TypeId) (fr : Nat × Nat) (ty : TypeId) :
  ∃ ad c w2, (Builtin.append_ #[T', T'] ty #[u, .slice (some ⟨wr.heap.size, 0, none⟩) 1 1]).run Tryz.prog (wr.alloc (.cells [Value.int .i64 x.op, .int .i64 x.arg].toArray t fr)) = .ok (.slice ad (p.code.length + 1) c) w2 ∧ w2.cell? ⟨g, 1, none⟩ = some u ∧ w2.frozen? ⟨g, 1, none⟩ = false ∧ PB T e w (w2.setCell ⟨g, 1, none⟩ (.slice ad (p.code.length + 1) c)) g v (.slice ad (p.code.length + 1) c) ⟨p.names, p.code ++ [x]⟩ := by
 have hl' : (rowI p.code).length ≤ 900000 := by rw [rowI_length]; exact hl
 obtain ⟨ad, c, w2, hrun, hO, k2, hN⟩ := append_rowR R h.code.own [.int .i64 x.op, .int .i64 x.arg] rfl (by simp [Value.oneCell']) hl' t fr ty
 rw [rowI_length] at hrun hO hN
 have gv : u.ownBlock ≠ some g := ownsR_ne h.code.own h.box hTe
 have hb2 : w2.heap[g]? = some (.cells #[v, u] T (0, 0)) := k2.keeps h.box (by simpa using gv)
 have hc2 : OwnsR 9 1 w2 v (rowN p.names) := h.names.own.kept k2 (fun g' hg' hm => own_apart h.names.own h.code.own (Ne.symm he) hg' (by simpa using hm))
 have e1 : rowI (p.code ++ [x]) = rowI p.code ++ [[.int .i64 x.op, .int .i64 x.arg]] := by simp [rowI]
 have ks : Kept [g] w2 (w2.setCell ⟨g, 1, none⟩ (.slice ad (p.code.length + 1) c)) := (Kept.refl [g] w2).setCell (.inl (by simp)) _
 have gn : ∀ g', (Value.slice ad (p.code.length + 1) c).ownBlock = some g' → g' ∉ [g] := fun g' hg' hm => by
  simp at hm
  subst hm
  exact ownsR_ne hO hb2 hTe hg'
 have gu : ∀ g', v.ownBlock = some g' → g' ∉ [g] := fun g' hg' hm => by
  simp at hm
  subst hm
  exact ownsR_ne hc2 hb2 hT hg'
 have kw : Kept [] w (w2.setCell ⟨g, 1, none⟩ (.slice ad (p.code.length + 1) c)) := (h.kept.trans k2 (fun x hx => .inr (h.code.new x (by simpa using hx)))).trans ks (fun x hx => .inr (by simp at hx; subst hx; exact h.hg))
 refine ⟨ad, c, w2, hrun, by simp [World.cell?, hb2], by simp [World.frozen?, hb2], ⟨set_at hb2, ⟨hc2.kept ks gu, h.names.new, kw⟩, ⟨?_, fun g' hg' => ?_, kw⟩, h.hg⟩⟩
 ·rw [e1]; exact hO.kept ks gn
 ·rcases hN g' hg' with h3 | h3
  ·exact h.code.new g' h3
  ·exact Nat.le_trans h.kept.size h3
end
section
variable {w : World} {b : Nat} {v0 v1 x0 x1 : Value} {t : TypeId}
theorem cells2_N (h : w.heap[b]? = some (.cells #[v0, v1] t (0, 0))) : w.cell? ⟨b, 0, none⟩ = some v0 ∧ w.cell? ⟨b, 1, none⟩ = some v1 := by simp [World.cell?, h]
theorem free2 (h : w.heap[b]? = some (.cells #[v0, v1] t (0, 0))) : w.frozen? ⟨b, 0, none⟩ = false ∧ w.frozen? ⟨b, 1, none⟩ = false := by simp [World.frozen?, h]
theorem put2 (h : w.heap[b]? = some (.cells #[v0, v1] t (0, 0))) (x0 x1 : Value) : ∃ W, (w.setCell ⟨b, 0, none⟩ x0).setCell ⟨b, 1, none⟩ x1 = W ∧ Kept [b] w W ∧ W.heap[b]? = some (.cells #[x0, x1] t (0, 0)) := by
 refine ⟨_, rfl, ((Kept.refl [b] w).setCell (.inl (by simp)) _).setCell (.inl (by simp)) _, ?_⟩
 have h1 : (w.setCell ⟨b, 0, none⟩ x0).heap[b]? = some (.cells #[x0, v1] t (0, 0)) := set_at h
 exact set_at h1
end
section
variable {P : Program}
end
theorem Out.all {T e : TypeId} {k b : Nat} {z : Value} {w wr : World} {u : Value} {rs : List (List Value)} (R : RowT T e k b z) (h : Out e k w wr u rs) (x : Value) (m : List (List Value)) (hm : Wide k m) (hr : ReadsR k wr x m) (hl : rs.length + m.length ≤ 1000000) (ty : TypeId) :
  ∃ ad c w2, (Builtin.append_ #[T, T] ty #[u, x]).run Tryz.prog wr = .ok (.slice ad (rs.length + m.length) c) w2 ∧ Out e k w w2 (.slice ad (rs.length + m.length) c) (rs ++ m) := by
 obtain ⟨ad, c, w2, hrun, hO, hg, hN⟩ := run_appendR R wr ty u rs h.own x m hm hr hl
 have k2 : Kept u.ownBlock.toList wr w2 := ((Kept.refl [] wr).mono (by simp)).grown hg (fun x hx => .inl (by rw [Option.mem_toList]; exact hx))
 refine ⟨ad, c, w2, hrun, hO, fun g hg => ?_, h.kept.trans k2 (fun x hx => .inr (h.new x (by simpa using hx)))⟩
 rcases hN g hg with h3 | h3
 ·exact h.new g h3
 ·exact Nat.le_trans h.kept.size h3
section
variable {w : World}
set_option maxHeartbeats 4000000 in
theorem theirs11 {v u : Value} {p : Pg} (hP : IsP_N w v u p) (hn : p.names.length ≤ 1000) (hc : p.code.length ≤ 1000) : Calls Tryz.prog 11 #[.agg #[v, u]] w fun e w' => ∃ v' u', e = .returned (.agg #[v', u']) ∧ IsP_N w' v' u' p ∧ Kept [] w w' := by
 obtain ⟨a, c, b, d, rfl, rfl, hl1, hl2⟩ := hP.form
 obtain ⟨W0, e0, k0, hz0, hb0, hb1⟩ := box2 w (.cells #[.slice a p.names.length c, .slice b p.code.length d] 25) (.cells #[.slice none 0 0, .slice none 0 0] 44)
 obtain ⟨y0, y1⟩ := cells2_N hb0
 obtain ⟨W1, e1, k1, hz1, hbn⟩ := box1 W0 (.cells #[] 9)
 have hown : OwnsR 9 1 W1 (.slice (some ⟨W0.heap.size, 0, none⟩) 0 0) [] := ownsR_block (rs := []) hbn (fun r hr => by simp at hr) rfl (by unfold maxLen; omega)
 have hout : Out 9 1 W0 W1 (.slice (some ⟨W0.heap.size, 0, none⟩) 0 0) [] := ⟨hown, fun g hg => by simp [Value.ownBlock] at hg; omega, k1⟩
 obtain ⟨ad, cc, W2, hrun, hO2⟩ := hout.all rt22 (.slice a p.names.length c) (rowN p.names) (wideN _) (hP.names.keep (k0.then k1)) (by rw [rowN_length]; simp; omega) 22
 rw [List.nil_append, rowN_length] at hO2
 have hl0 : ([] : List (List Value)).length = 0 := rfl
 rw [hl0, rowN_length] at hrun
 rw [hl0] at hO2
 rw [Nat.zero_add] at hrun hO2
 have hb0' := hO2.kept.keeps hb0 (by simp)
 obtain ⟨y2, y3⟩ := cells2_N hb0'
 obtain ⟨y4, y5⟩ := cells2_N (k1.keeps hb0 (by simp))
 obtain ⟨W3, e3, k3, hz3, hb3⟩ := box1 W2 (.cells #[.slice ad p.names.length cc, .slice none 0 0] 44)
 have HPB : Hid (PB 44 83 W0 W3 W2.heap.size (.slice ad p.names.length cc) (.slice none 0 0) ⟨p.names, []⟩) := ⟨hb3, hO2.keep k3, Out.nil (hO2.kept.then k3), hO2.kept.size⟩
 obtain ⟨y6, y7⟩ := cells2_N (k3.keeps hb0' (by simp))
 have HE3 := Hid.mk e3
 have hlt2 : w.heap.size < W2.heap.size := lt_of_block hb0'
 clear e3
 have HB0 := Hid.mk hb0
 have HB1 := Hid.mk hb1
 have HK0 := Hid.mk k0
 have HP := Hid.mk (hP.keep k0)
 clear hown hout hO2 hb0' k3 hz3 hb3 k1 hz1 hbn hb0 hb1 k0 hz0 hP
 go_enter Tryz.func11, Tryz.ntmps11
 go_wp2_with (at_builtin; refine wpList_append_run 22 22 (.tmp 5) (.tmp 7) rfl (by rfl) _ _ rfl rfl _ _ hrun ?_)
 rw [HE3.out]
 generalize hgg : W2.heap.size = g at *
 clear hgg hrun
 have HG2 : Hid (∀ W W5, Kept [] W0 W → Kept [w.heap.size + 1] W W5 → Kept [] w W5) := fun W W5 k k5 => (HK0.out.then k).trans k5 (fun y hy => by simp at hy; subst hy; exact .inr (by omega))
 have hg2 : w.heap.size + 1 < W0.heap.size := lt_of_block HB1.out
 have HGG := Hid.mk hg2
 clear hg2
 generalize w.heap.size = g1 at *
 go_loopw [13] (fun i wr => ∃ (j : Nat) (u : Value), i = .int .i64 (j : Int) ∧ j ≤ p.code.length ∧ Hid (PB 44 83 W0 wr g (.slice ad p.names.length cc) u ⟨p.names, p.code.take j⟩)) (fun i _ => p.code.length - (intOf i).toNat)
 case atStart => exact ⟨0, _, rfl, by omega, by simpa using HPB⟩
 case round =>
  obtain ⟨j, u, rfl, hj, HB⟩ := hrel
  have HKr := Hid.mk HB.out.kept
  obtain ⟨va, vc, ua, uc, -, hu⟩ := HB.out.forms
  have hlen : (p.code.take j).length = j := by rw [List.length_take]; omega
  dsimp only at hu
  rw [hlen] at hu
  subst hu
  obtain ⟨x0, x1⟩ := cells2_N (HKr.out.keeps HB0.out (by simp))
  by_cases hlt : j < p.code.length
  ·obtain ⟨b1, o1, rfl, hc1, hc2⟩ := code_at (HP.out.code.keep HKr.out) hlt
   have hjI : (j : Int) < (p.code.length : Int) := by omega
   have hj0 : (0 : Int) ≤ (j : Int) := by omega
   have HD := HB.out.keep (Kept.refl [] wr).drew
   obtain ⟨ad2, c2, w2, hrun, r0, r1, hPB⟩ := HD.addCode rt31 (by decide) (by decide) (by decide) (by dsimp only; omega) p.code[j] 83 (0, 0) 42
   dsimp only at hrun r0 r1 hPB
   rw [hlen] at hrun hPB
   have e9 : p.code.take (j + 1) = p.code.take j ++ [p.code[j]] := by rw [List.take_add_one]; simp [hlt]
   rw [← e9] at hPB
   have HN := Hid.mk hPB
   have hrun' : (Builtin.append_ #[42, 42] 42 #[.slice ua j uc, .slice (some ⟨wr.heap.size, 0, none⟩) 1 1]).run Tryz.prog (wr.alloc (.cells #[.int .i64 p.code[j].op, .int .i64 p.code[j].arg] 83)).drew = .ok (.slice ad2 (j + 1) c2) w2 := hrun
   have S0 : wr.drew.cell? ⟨g, 1, none⟩ = some (.slice ua j uc) := HD.c1
   have S1 : (wr.alloc (.cells #[.int .i64 p.code[j].op, .int .i64 p.code[j].arg] 83)).drew.cell? ⟨g, 1, none⟩ = some (.slice ua j uc) := (((Kept.refl [] wr).alloc (.cells #[.int .i64 p.code[j].op, .int .i64 p.code[j].arg] 83)).drew).cell_eq HB.out.c1
   have S2 : wr.drew.cell? ⟨g1, 1, none⟩ = some (.slice (some ⟨b1, o1, none⟩) p.code.length d) := x1
   have S3 : wr.drew.cell? ⟨b1, o1 + j * 2, none⟩ = some (.int .i64 p.code[j].op) := hc1
   have S4 : wr.drew.cell? ⟨b1, o1 + j * 2 + 1, none⟩ = some (.int .i64 p.code[j].arg) := hc2
   clear hPB HD e9 hrun hlen
   generalize p.code[j].op = q1 at *
   generalize p.code[j].arg = q2 at *
   go_wp2_with fail
   go_region_law ((refine step_append_run 42 (.tmp 17) (.tmp 23) (by rfl) (by rfl) _ _ (by rfl) (by rfl) hrun' ?_))
   all_goals
    generalize w2.setCell ⟨g, 1, none⟩ (.slice ad2 (j + 1) c2) = W7 at *
    go_wp2_with fail
    go_roundw
    case rel => exact ⟨j + 1, _, by go_num, by omega, HN⟩
    case measure => simp [intOf]; omega
  ·have hje : ¬ (j : Int) < (p.code.length : Int) := by omega
   obtain rfl : j = p.code.length := by omega
   rw [List.take_length] at HB
   have z0 := HB.out.c0
   have z1 := HB.out.c1
   have hbr := HKr.out.keeps HB1.out (by simp)
   have HBr := Hid.mk hbr
   obtain ⟨f0, f1⟩ := free2 hbr
   obtain ⟨d0, d1⟩ := cells2_N hbr
   clear hbr hlen
   go_wp2_with fail
   obtain ⟨W5, e5, k5, hb5⟩ := put2 HBr.out (.slice ad p.names.length cc) (.slice ua p.code.length uc)
   rw [e5]
   clear e5
   refine bodyPost_ret (results_cell_row (p := 2) (ty := 44) rfl _ _ (g1 + 1) 44 _ (0, 0) _ rfl hb5 Tryz.underlying44 rfl (by kernel_rfl)) rfl ?_
   have hng : ∀ g', W0.heap.size ≤ g' → g' ∉ [g1 + 1] := fun g' h1 h2 => by have := HGG.out; simp at h2; omega
   exact ⟨_, _, rfl, ⟨HB.out.isP.names.kept k5 (fun g' h => hng g' (HB.out.names.new g' h)), HB.out.isP.code.kept k5 (fun g' h => hng g' (HB.out.code.new g' h))⟩, HG2.out _ _ HKr.out k5⟩
end
end Go.Proofs.YtngnenbidpojeaaGreatDoor
