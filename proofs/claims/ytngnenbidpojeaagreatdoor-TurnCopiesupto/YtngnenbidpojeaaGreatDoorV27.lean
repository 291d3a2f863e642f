import Derived.Test.YtngnenbidpojeaaGreatDoorV11
import Derived.Test.YtngnenbidpojeaaGreatDoorV16
import Derived.Test.YtngnenbidpojeaaGreatDoorV23
import Derived.Test.YtngnenbidpojeaaGreatDoorV24
import Derived.Test.YtngnenbidpojeaaGreatDoorV25
import Derived.Test.YtngnenbidpojeaaGreatDoorV26
/-
  A run that failed: giveUp.
-/
namespace Go.Proofs.YtngnenbidpojeaaGreatDoor
set_option maxRecDepth 100000
open Go.RowKit
set_option linter.unusedVariables false
/-- What a turn tells, as a value. -/
def Oval (o : Oc) (tv : Value) : Value := .agg #[.bool o.done, .bool o.poi, .int .i64 o.failed, .int .i64 (o.steps : Int), tv]
def IsOc (n : Nat) (w : World) (v : Value) (o : Oc) : Prop := ∃ tv, v = Oval o tv ∧ ReadsR 5 w tv (rowT o.tm) ∧ ∀ g, tv.ownBlock = some g → n ≤ g
theorem IsOc.keep {n : Nat} {w w' : World} {v : Value} {o : Oc} (h : IsOc n w v o) (k : Kept [] w w') : IsOc n w' v o := by
  obtain ⟨tv, h1, h2, h3⟩ := h
  exact ⟨tv, h1, h2.keep k, h3⟩
theorem isOc_nil {n : Nat} (w : World) (d p : Bool) (f : Int) (k : Nat) : IsOc n w (.agg #[.bool d, .bool p, .int .i64 f, .int .i64 (k : Int), .slice none 0 0]) ⟨d, p, f, k, []⟩ := ⟨_, rfl, ReadsR.nil 5 w, fun g h => by simp [Value.ownBlock] at h⟩
/-- An actor's poison lies at v, in memory of its own. -/
def PoiO (w : World) (v : Value) (ps : List Lt) : Prop := ∃ qs, OwnsR 81 4 w v (CQ qs) ∧ (∀ q ∈ qs, OwnsJ w q.sl q.x.args) ∧ qs.map (·.x) = ps
section
variable {w0 w w' : World} {v : Value} {ps : List Lt} {ts : List Nat}
theorem PoiO.turn (h : PoiO w v ps) (T : TT ts w0 w w') (h1 : (81 : Nat) ∉ ts) (h2 : (2 : Nat) ∉ ts) : PoiO w' v ps := by
  obtain ⟨S, kS, hS⟩ := T
  obtain ⟨qs, a1, a2, a3⟩ := h
  exact ⟨qs, a1.kept kS (TT.neR hS a1 h1), fun q hq => (a2 q hq).kept kS (TT.neJ hS (a2 q hq) h2), a3⟩
theorem PoiO.kept0 (h : PoiO w v ps) (k : Kept [] w w') : PoiO w' v ps := h.turn (w0 := w) (ts := []) (TT.of0 k) (by simp) (by simp)
theorem TT.one {t : Nat} {g : Nat} {cs : Array Value} (hb : w.heap[g]? = some (.cells cs t (0, 0))) (hg : w0.heap.size ≤ g) (k : Kept [g] w w') : TT [t] w0 w w' :=
  ⟨[g], k, fun x hx => by simp at hx; subst hx; exact ⟨hg, _, _, hb, by simp⟩⟩
theorem PoiO.form (h : PoiO w v ps) : ∃ a c, v = .slice a ps.length c := by
  obtain ⟨qs, a1, a2, a3⟩ := h
  obtain ⟨a, c, e, -, -⟩ := a1.form
  exact ⟨a, c, by rw [e, ← a3, CQ_length, List.length_map]⟩
theorem PoiO.at (h : PoiO w v ps) : PoiAt w v ps := by
  obtain ⟨qs, a1, a2, a3⟩ := h
  exact ⟨qs, a1.reads (CQ_wide qs), fun q hq => (a2 q hq).reads, a3⟩
theorem PoiO.of {qs : List Lq} (h : OwnL w0 w v qs) : PoiO w v (qs.map (·.x)) := ⟨qs, h.own, h.args, rfl⟩
end
/-- The program's actor at p, made behind w0. -/
def AP (w0 w : World) (p pj pi po : Nat) (a : Ac) : Prop := ∃ v, PA w0 w p pj pi po a.tries v a ∧ PoiO w v a.poi ∧ GoodP a
section
variable {w0 w w' : World} {p pj pi po : Nat} {a b : Ac} {t : Int} {v : Value}
theorem AP.kept0 (h : AP w0 w p pj pi po a) (k : Kept [] w w') : AP w0 w' p pj pi po a := by
  obtain ⟨v, h1, h2, h3⟩ := h
  exact ⟨v, h1.kept0 k, h2.kept0 k, h3⟩
theorem AP.act (h : AP w0 w p pj pi po a) : IsAct w p a := by
  obtain ⟨v, h1, h2, h3⟩ := h
  exact h1.act h2.at h3
/-- What a turn may turn: the actor's parts. -/
abbrev tP : List Nat := [66, 177, 140, 168]
theorem PA.tt (h : PA w0 w p pj pi po t v a) (k : Kept [p, pj, pi, po] w w') : TT tP w0 w w' := by
  obtain ⟨h1, h2, ⟨qs, h3, h4⟩, ⟨ys, h5, h6⟩, h7, h8, h9, h10⟩ := h
  obtain ⟨cs, hb⟩ := h5.bx
  refine ⟨_, k, fun g hg => ?_⟩
  simp only [List.mem_cons, List.not_mem_nil, or_false] at hg
  rcases hg with rfl | rfl | rfl | rfl
  · exact ⟨h7, _, _, h1, by simp⟩
  · exact ⟨h8, _, _, h2.isP.box, by simp⟩
  · exact ⟨h9, _, _, h3.box, by simp⟩
  · exact ⟨h10, _, _, hb, by simp⟩
theorem PA.cells (h : PA w0 w p pj pi po t v a) : w.cell? ⟨p, 0, none⟩ = some (Ptr pj) ∧ w.cell? ⟨p, 1, none⟩ = some (Ptr pi) ∧ w.cell? ⟨p, 2, none⟩ = some (Ptr po) ∧ w.cell? ⟨p, 3, none⟩ = some (Iv t) ∧ w.cell? ⟨p, 4, none⟩ = some v := cells5 h.box
theorem PA.free (h : PA w0 w p pj pi po t v a) (i : Nat) : w.frozen? ⟨p, i, none⟩ = false := by simp [World.frozen?, h.box]
theorem PA.set3 (h : PA w0 w p pj pi po t v a) (x : Int) : PA w0 (w.setCell ⟨p, 3, none⟩ (Iv x)) p pj pi po x v a := by
  obtain ⟨h1, h2, ⟨qs, h3, h4⟩, ⟨ys, h5, h6⟩, h7, h8, h9, h10⟩ := h
  have T1 := TT.set (i := 3) h1 h7 (Iv x)
  exact ⟨set_list (L := [_, _, _, _, _]) h1, T1.isJ h2 (by decide), ⟨qs, T1.isB h3 (by decide) (by decide), h4⟩, ⟨ys, T1.isO h5 (by decide) (by decide), h6⟩, h7, h8, h9, h10⟩
theorem PA.set4 (h : PA w0 w p pj pi po t v a) (x : Value) : PA w0 (w.setCell ⟨p, 4, none⟩ x) p pj pi po t x a := by
  obtain ⟨h1, h2, ⟨qs, h3, h4⟩, ⟨ys, h5, h6⟩, h7, h8, h9, h10⟩ := h
  have T1 := TT.set (i := 4) h1 h7 x
  exact ⟨set_list (L := [_, _, _, _, _]) h1, T1.isJ h2 (by decide), ⟨qs, T1.isB h3 (by decide) (by decide), h4⟩, ⟨ys, T1.isO h5 (by decide) (by decide), h6⟩, h7, h8, h9, h10⟩
theorem PA.as (h : PA w0 w p pj pi po t v a) (e1 : b.j = a.j) (e2 : b.inb = a.inb) (e3 : b.out = a.out) : PA w0 w p pj pi po t v b := by
  obtain ⟨h1, h2, h3, h4, h5, h6, h7, h8⟩ := h
  exact ⟨h1, by rw [e1]; exact h2, by rw [e2]; exact h3, by rw [e3]; exact h4, h5, h6, h7, h8⟩
theorem PA.putI (h : PA w0 w p pj pi po t v a) {qs : List Lq} (hB : IsB w' pi qs) (k : Kept [pi] w w') : PA w0 w' p pj pi po t v ⟨a.j, qs.map (·.x), a.out, a.tries, a.poi⟩ := by
  obtain ⟨h1, h2, ⟨qs0, h3, h4⟩, ⟨ys, h5, h6⟩, h7, h8, h9, h10⟩ := h
  have T1 := TT.ofB h3 h9 k
  exact ⟨T1.box h1 (by decide), T1.isJ h2 (by decide), ⟨qs, hB, rfl⟩, ⟨ys, T1.isO h5 (by decide) (by decide), h6⟩, h7, h8, h9, h10⟩
theorem PA.putJ (h : PA w0 w p pj pi po t v a) {j : Jn} (hJ : IsJ w' pj j) (k : Kept [pj] w w') : PA w0 w' p pj pi po t v ⟨j, a.inb, a.out, a.tries, a.poi⟩ := by
  obtain ⟨h1, h2, ⟨qs, h3, h4⟩, ⟨ys, h5, h6⟩, h7, h8, h9, h10⟩ := h
  have T1 := TT.ofJ h2 h8 k
  exact ⟨T1.box h1 (by decide), hJ, ⟨qs, T1.isB h3 (by decide) (by decide), h4⟩, ⟨ys, T1.isO h5 (by decide) (by decide), h6⟩, h7, h8, h9, h10⟩
theorem PA.putO (h : PA w0 w p pj pi po t v a) {o : Ob} {ys' : List Yq} (hO : IsO w' po o.own o.K ys') (hm : ys'.map ot = o.L) (k : Kept [po] w w') : PA w0 w' p pj pi po t v ⟨a.j, a.inb, o, a.tries, a.poi⟩ := by
  obtain ⟨h1, h2, ⟨qs, h3, h4⟩, ⟨ys, h5, h6⟩, h7, h8, h9, h10⟩ := h
  have T1 := TT.ofO h5 h10 k
  exact ⟨T1.box h1 (by decide), T1.isJ h2 (by decide), ⟨qs, T1.isB h3 (by decide) (by decide), h4⟩, ⟨ys', hO, hm⟩, h7, h8, h9, h10⟩
end
/-- What the program's turn answers and leaves. -/
def TkP (n : Nat) (w0 w : World) (p pj pi po : Nat) (r : Ac × Oc × Int) (e : Ending) (w' : World) : Prop :=
  ∃ v, e = .returned (.tuple #[v, .int .i64 r.2.2]) ∧ IsOc n w' v r.2.1 ∧ AP w0 w' p pj pi po r.1 ∧ Kept [p, pj, pi, po] w w'
set_option maxHeartbeats 4000000 in
theorem giveUp35 {w0 w : World} {n p pj pi po : Nat} {a : Ac} {x : Lt} {t : List Lt} {R : Rsl} {er : Int} (h : AP w0 w p pj pi po a) (h0 : 0 ≤ a.tries) (h2 : a.tries ≤ 2) (h8 : a.poi.length ≤ 8) (hi : a.inb = x :: t) (he : er ≠ 0) :
    Calls Tryz.prog 35 #[Ptr p, .int .i64 er, .int .i64 (R.k : Int)] w (TkP n w0 w p pj pi po (takeR a x t R er)) := by
  have HT : Hid (takeR a x t R er = if a.tries + 1 < 3 then (⟨a.j, a.inb, a.out, a.tries + 1, a.poi⟩, ⟨false, false, er, R.k, []⟩, 0) else if a.poi.length = 8 then (a, ocN, 8) else (⟨a.j, t, a.out, 0, a.poi ++ [x]⟩, ⟨false, true, er, R.k, []⟩, 0)) := Hid.mk (by unfold takeR; rw [if_neg he])
  generalize takeR a x t R er = TR at *
  obtain ⟨v, hpa, hpo, hg⟩ := h
  obtain ⟨W0, e0, k0, hz0, hb0⟩ := box1 w (.cells #[.bool false, .bool false, .int .i64 0, .int .i64 0, .slice none 0 0] 39)
  have hpa0 := hpa.kept0 k0
  have hpo0 := hpo.kept0 k0
  have hpl := lt_of_block hpa.box
  have HP := Hid.mk hpa0
  have HPO := Hid.mk hpo0
  have HG := Hid.mk hg
  have HK := Hid.mk k0
  obtain ⟨d0, d1, d2, d3, d4⟩ := hpa0.cells
  obtain ⟨f0, f1, f2, f3, f4⟩ := free5 hb0
  obtain ⟨c0, c1, c2, c3, c4⟩ := cells5 hb0
  have z3 := hpa0.free 3
  generalize hk : R.k = rk at *
  by_cases ht : a.tries + 1 < 3
  · rw [if_pos ht] at HT
    have hp3 := hpa0.set3 (a.tries + 1)
    have hb1 : (W0.setCell ⟨p, 3, none⟩ (Iv (a.tries + 1))).heap[w.heap.size]? = some (.cells #[.bool false, .bool false, .int .i64 0, .int .i64 0, .slice none 0 0] 39 (0, 0)) := by
      have k1 : Kept [p] W0 (W0.setCell ⟨p, 3, none⟩ (Iv (a.tries + 1))) := (Kept.refl [p] W0).setCell (p := ⟨p, 3, none⟩) (.inl (by simp)) _
      exact k1.keeps hb0 (by simp; omega)
    obtain ⟨g0, g1, g2, g3, g4⟩ := free5 hb1
    obtain ⟨b0, b1, b2, b3, b4⟩ := cells5 hb1
    have hs0 : w0.heap.size ≤ w.heap.size := by have := hpa.hp; omega
    clear hpa hpo hg k0 hpa0 hpo0
    go_enter Tryz.func35, Tryz.ntmps35
    go_wp2_with fail
    obtain ⟨W8, e8, k8, h8, -⟩ := put5 hb1 (.bool false) (.bool false) (.int .i64 er) (.int .i64 (rk : Int)) (.slice none 0 0)
    rw [e8]
    refine bodyPost_ret (results_cell_row2 (p := 6) (u := 7) (ty := 39) rfl _ _ w.heap.size 39 _ (0, 0) _ rfl h8 Tryz.underlying39 rfl (by kernel_rfl) _ rfl) rfl ?_
    rw [HT.out]
    have T1 := TT.set (i := 3) HP.out.box HP.out.hp (Iv (a.tries + 1))
    have T2 := TT.one hb1 hs0 k8
    have hp8 := hp3.turn T2 (by decide)
    have hv8 := (HPO.out.turn T1 (by decide) (by decide)).turn T2 (by decide) (by decide)
    have g := HG.out
    refine ⟨_, rfl, isOc_nil _ _ _ _ _, ⟨v, hp8.as rfl rfl rfl, hv8, ⟨g.j, g.i8, g.inb, g.out, g.poi⟩⟩, ?_⟩
    exact ((HK.out.mono (by simp)).setCell (p := ⟨p, 3, none⟩) (.inl (by simp)) _).trans k8 (fun x hx => .inr (by simp at hx; omega))
  · rw [if_neg ht] at HT
    obtain ⟨av, cv, rfl⟩ := hpo.form
    generalize hM : a.poi.length = m at *
    have HM := Hid.mk hM
    have ht' : (a.tries + 1 < 3) = False := eq_false ht
    have hs0 : w0.heap.size ≤ w.heap.size := by have := hpa.hp; omega
    by_cases hm : m = 8
    · rw [if_pos hm] at HT
      subst hm
      clear hpa hpo hg k0 hpa0 hpo0
      go_enter Tryz.func35, Tryz.ntmps35
      go_wp2_with fail
      obtain ⟨W8, e8, k8, h8, -⟩ := put5 hb0 (.bool false) (.bool false) (.int .i64 0) (.int .i64 0) (.slice none 0 0)
      rw [e8]
      refine bodyPost_ret (results_cell_row2 (p := 6) (u := 7) (ty := 39) rfl _ _ w.heap.size 39 _ (0, 0) _ rfl h8 Tryz.underlying39 rfl (by kernel_rfl) _ rfl) rfl ?_
      rw [HT.out]
      have T2 := TT.one hb0 hs0 k8
      exact ⟨_, rfl, isOc_nil _ _ _ _ 0, ⟨_, HP.out.turn T2 (by decide), HPO.out.turn T2 (by decide) (by decide), HG.out⟩, (HK.out.mono (by simp)).trans k8 (fun x hx => .inr (by simp at hx; omega))⟩
    · rw [if_neg hm] at HT
      have hmI : ((m : Int) == 8) = false := by simp; omega
      obtain ⟨q, qt, hB, rfl, rfl⟩ : ∃ q qt, IsB W0 pi (q :: qt) ∧ q.x = x ∧ qt.map (·.x) = t := by
        obtain ⟨qs, h1, h2⟩ := hpa0.i
        rw [hi] at h2
        match qs, h2 with
        | q :: qt, h2 => simp only [List.map_cons, List.cons.injEq] at h2; exact ⟨q, qt, h1, h2.1, h2.2⟩
      have hpil : pi < w.heap.size := lt_of_block hpa.i.choose_spec.1.box
      have HC := Hid.mk (pop13_some hB)
      clear hpa hpo hg k0 hpa0 hpo0 hB
      go_enter Tryz.func35, Tryz.ntmps35
      go_wp2_with fail
      refine HC.out.mono ?_
      rintro e w1 ⟨a1, c1, rfl, hJ1, k1, hf1, hB1⟩
      clear HC
      obtain ⟨W2, e2, k2, hz2, hb2⟩ := box1 w1 (.cells #[Sv q.x.fr, .int .u64 (q.x.ser : Int), .int .i64 q.x.kind, .slice a1 q.x.args.length c1] 81)
      have hp2 := ((HP.out.putI hB1 k1).kept0 k2).kept0 (Kept.refl [] W2).drew
      have T1 := TT.ofB HP.out.i.choose_spec.1 HP.out.hi k1
      have hv2 := ((HPO.out.turn T1 (by decide) (by decide)).kept0 k2).kept0 (Kept.refl [] W2).drew
      have hb2' : W2.drew.heap[w1.heap.size]? = some (.cells #[Sv q.x.fr, .int .u64 (q.x.ser : Int), .int .i64 q.x.kind, .slice a1 q.x.args.length c1] 81 (0, 0)) := hb2
      have hJ2 := (hJ1.kept k2 (by simp)).kept (Kept.refl [] W2).drew (by simp)
      obtain ⟨ms, hv2a, hv2b, hv2c⟩ := hv2
      have hml : ms.length = m := by rw [← HM.out, ← hv2c, List.length_map]
      obtain ⟨l0, l1, l2, l3⟩ := cells4 hb2'
      obtain ⟨d0, d1, d2, d3, d4⟩ := hp2.cells
      have HC : Hid (∀ W, W = (W2.drew.alloc (.cells #[Sv q.x.fr, .int .u64 (q.x.ser : Int), .int .i64 q.x.kind, .slice a1 q.x.args.length c1] 81)).alloc (.cells #[.slice av m cv, .slice (some ⟨W2.heap.size, 0, none⟩) 1 1] 26) →
          Calls Tryz.prog 96 #[.slice (some ⟨W2.heap.size + 1, 0, none⟩) 2 2] W fun e w' => ∃ a4 c4, e = .returned (.slice a4 (m + 1) c4) ∧ OwnsR 81 4 w' (.slice a4 (m + 1) c4) (CQ (ms ++ [⟨q.x, a1, c1⟩])) ∧ Fresh W (.slice a4 (m + 1) c4) ∧ Kept [] W w') := Hid.mk fun W hW => by
        obtain ⟨W3, e3, k3, hz3, hb3⟩ := box1 W2.drew (.cells #[Sv q.x.fr, .int .u64 (q.x.ser : Int), .int .i64 q.x.kind, .slice a1 q.x.args.length c1] 81)
        obtain ⟨W4, e4, k4, hz4, hb4⟩ := box1 W3 (.cells #[.slice av m cv, .slice (some ⟨W2.heap.size, 0, none⟩) 1 1] 26)
        rw [e3, e4] at hW
        subst hW
        have hz : W3.heap.size = W2.heap.size + 1 := hz3
        have hb3' := k4.keeps hb3 (by simp)
        have hrow : ReadsR 1 W (.slice (some ⟨W2.heap.size + 1, 0, none⟩) 2 2) ([((.slice av m cv : Value), ms), (.slice (some ⟨W2.heap.size, 0, none⟩) 1 1, [⟨q.x, a1, c1⟩])].map fun x => [x.1]) := by
          refine ⟨_, 2, rfl, by simp, by unfold maxLen; omega, by simp, fun _ => ⟨_, 0, rfl, fun j r hj i x hx => ?_⟩⟩
          rw [hz] at hb4
          obtain ⟨b0, b1⟩ := cell_of_two hb4
          match j, hj with
          | 0, hj => simp at hj; subst hj; match i, hx with | 0, hx => simp at hx; subst hx; exact b0
          | 1, hj => simp at hj; subst hj; match i, hx with | 0, hx => simp at hx; subst hx; exact b1
        refine (concat96 _ 2 2 [((.slice av m cv : Value), ms), (.slice (some ⟨W2.heap.size, 0, none⟩) 1 1, [⟨q.x, a1, c1⟩])] (Hid.mk rfl) hrow (Hid.mk fun y hy => ?_) (by omega) (Hid.mk ?_)).mono ?_
        · simp at hy
          rcases hy with rfl | rfl
          · exact ⟨(hv2a.kept (k3.trans k4 (by simp)) (by simp)).reads (CQ_wide _), rfl⟩
          · refine ⟨⟨_, 1, rfl, by simp [CQ], by unfold maxLen; omega, by simp, fun _ => ⟨_, 0, rfl, fun j r hj i x hx => ?_⟩⟩, rfl⟩
            obtain ⟨b0, b1, b2, b3⟩ := cells4 hb3'
            match j, hj with
            | 0, hj =>
              simp [CQ, cellsQ] at hj; subst hj
              match i, hx with
              | 0, hx => simp at hx; subst hx; exact b0
              | 1, hx => simp at hx; subst hx; exact b1
              | 2, hx => simp at hx; subst hx; exact b2
              | 3, hx => simp at hx; subst hx; exact b3
        · simp [lens]; omega
        · rintro e w5 ⟨v5, rfl, h1, h2, h3⟩
          have h1' : OwnsR 81 4 w5 v5 (CQ (ms ++ [⟨q.x, a1, c1⟩])) := by simpa [cats] using h1
          obtain ⟨a5, c5, rfl, -, -⟩ := h1'.form
          rw [show (CQ (ms ++ [⟨q.x, a1, c1⟩])).length = m + 1 by rw [CQ_length]; simp [hml]] at h1' h2 ⊢
          exact ⟨_, _, rfl, h1', h2, h3⟩
      have HP2 := Hid.mk hp2
      have HJ2 := Hid.mk (And.intro hJ2 (And.intro hv2b hv2c))
      have KW : Hid (Kept [pi] W0 W2.drew) := Hid.mk ((k1.trans k2 (by simp)).drew)
      have hgl : w.heap.size < W2.heap.size := by have := KW.out.size; have : W2.drew.heap.size = W2.heap.size := rfl; omega
      have HB2 := Hid.mk (KW.out.keeps hb0 (by simp; omega))
      clear hp2 hv2a hv2b hv2c hJ2 hb2 hb2' k1 k2 hJ1 hf1 hB1 T1 hz2
      go_wp2_with fail
      have HS : Hid (∀ W, Kept [] W2.drew W → W.cell? ⟨p, 4, none⟩ = some (.slice av m cv) ∧ W.cell? ⟨w1.heap.size, 0, none⟩ = some (Sv q.x.fr) ∧ W.cell? ⟨w1.heap.size, 1, none⟩ = some (.int .u64 (q.x.ser : Int)) ∧ W.cell? ⟨w1.heap.size, 2, none⟩ = some (.int .i64 q.x.kind) ∧ W.cell? ⟨w1.heap.size, 3, none⟩ = some (.slice a1 q.x.args.length c1)) := Hid.mk fun W k => by
        obtain ⟨-, -, -, -, i4⟩ := (HP2.out.kept0 k).cells
        exact ⟨i4, k.cell_eq l0, k.cell_eq l1, k.cell_eq l2, k.cell_eq l3⟩
      have S0 := HS.out _ (Kept.refl [] _)
      have S1 := (HS.out _ ((Kept.refl [] W2.drew).alloc (.cells #[Sv q.x.fr, .int .u64 (q.x.ser : Int), .int .i64 q.x.kind, .slice a1 q.x.args.length c1] 81))).1
      have S2 : (W2.alloc (.cells #[Sv q.x.fr, .int .u64 (q.x.ser : Int), .int .i64 q.x.kind, .slice a1 q.x.args.length c1] 81)).drew.cell? ⟨p, 4, none⟩ = some (.slice av m cv) := S1
      clear d0 d1 d2 d3 S0
      go_region_law (go_simp; go_at_call 96; refine (HC.out _ rfl).mono ?_; rintro e w4 ⟨a4, c4, rfl, hO4, hf4, k4⟩; have K4 : Hid (Kept [] W2.drew w4) := Hid.mk ((((Kept.refl [] W2.drew).alloc _).alloc _).trans k4 (by simp)); have p4 := HP2.out.kept0 K4.out; have z4 := p4.free 4; obtain ⟨i0, i1, i2, i3, i4⟩ := p4.cells; have HO4 := Hid.mk hO4; clear hO4 k4 hf4 p4)
      all_goals
        clear S1 S2 d4 l0 l1 l2 l3 HC HS
        have hp4 := HP2.out.kept0 K4.out
        have hp5 := hp4.set4 (.slice a4 (m + 1) c4)
        have z5 := hp5.free 3
        obtain ⟨-, -, -, j3, -⟩ := hp5.cells
        have T4 := TT.set (i := 4) hp4.box hp4.hp (.slice a4 (m + 1) c4)
        have hp6 := hp5.set3 0
        have T5 := TT.set (i := 3) hp5.box hp5.hp (Iv 0)
        have KS : Hid (Kept [p] w4 ((w4.setCell ⟨p, 4, none⟩ (.slice a4 (m + 1) c4)).setCell ⟨p, 3, none⟩ (Iv 0))) := Hid.mk (((Kept.refl [p] w4).setCell (p := ⟨p, 4, none⟩) (.inl (by simp)) _).setCell (p := ⟨p, 3, none⟩) (.inl (by simp)) _)
        have hb6 := KS.out.keeps (K4.out.keeps HB2.out (by simp)) (by simp; omega)
        obtain ⟨g0, g1, g2, g3, g4⟩ := free5 hb6
        obtain ⟨y0, y1, y2, y3, y4⟩ := cells5 hb6
        have H6 := Hid.mk (And.intro hp6 (And.intro T4 (And.intro T5 hb6)))
        clear hp4 hp5 hp6 T4 T5 hb6 i0 i1 i2 i4 z4
        go_wp2_with fail
        obtain ⟨W8, e8, k8, h8, -⟩ := put5 H6.out.2.2.2 (.bool false) (.bool true) (.int .i64 er) (.int .i64 (rk : Int)) (.slice none 0 0)
        rw [e8]
        refine bodyPost_ret (results_cell_row2 (p := 6) (u := 7) (ty := 39) rfl _ _ w.heap.size 39 _ (0, 0) _ rfl h8 Tryz.underlying39 rfl (by kernel_rfl) _ rfl) rfl ?_
        rw [HT.out]
        obtain ⟨hp6, T4, T5, hb6⟩ := H6.out
        have T8 := TT.one hb6 hs0 k8
        have hp8 := hp6.turn T8 (by decide)
        have g := HG.out
        have hx := g.inb q.x (by rw [hi]; simp)
        have hJ4 : PoiO w4 (.slice a4 (m + 1) c4) (a.poi ++ [q.x]) := ⟨ms ++ [⟨q.x, a1, c1⟩], HO4.out, fun y hy => by
          rcases List.mem_append.1 hy with h | h
          · exact (HJ2.out.2.1 y h).kept K4.out (by simp)
          · simp at h; subst h; exact HJ2.out.1.kept K4.out (by simp), by rw [List.map_append, HJ2.out.2.2]; rfl⟩
        have hv8 := ((hJ4.turn T4 (by decide) (by decide)).turn T5 (by decide) (by decide)).turn T8 (by decide) (by decide)
        refine ⟨_, rfl, isOc_nil _ _ _ _ _, ⟨_, hp8.as rfl rfl rfl, hv8, ⟨g.j, ?_, fun y hy => g.inb y (by rw [hi]; simp [hy]), g.out, fun y hy => ?_⟩⟩, ?_⟩
        · have := g.i8; rw [hi, List.length_cons] at this; exact Nat.le_of_succ_le this
        · rcases List.mem_append.1 hy with h | h
          · exact g.poi y h
          · simp at h; subst h; exact hx.1
        · exact ((((HK.out.mono (by simp)).trans KW.out (by simp)).trans K4.out (by simp)).trans KS.out (by simp)).trans k8 (fun x hx => .inr (by simp at hx; omega))
end Go.Proofs.YtngnenbidpojeaaGreatDoor
