import Derived.Test.YtngnenbidpojeaaGreatDoorT09
import Derived.Test.YtngnenbidpojeaaGreatDoorT11
import Derived.Test.YtngnenbidpojeaaGreatDoorT18
import Derived.Test.YtngnenbidpojeaaGreatDoorT25
import Derived.Test.YtngnenbidpojeaaGreatDoorT31
import Derived.Test.YtngnenbidpojeaaGreatDoorT32
import Derived.Test.YtngnenbidpojeaaGreatDoorT38
/-
 What a turn does to the document's actor.
-/
namespace Go.Proofs.YtngnenbidpojeaaGreatDoor
set_option maxRecDepth 100000
open Go.RowKit
set_option linter.unusedVariables false
section
variable {w0 w : World} {p : Nat} {v : Value}
set_option maxRecDepth 100000 in
set_option maxHeartbeats 1000000 in
theorem rpop14_new {q : Lq} {t : List Lq} (hF : IsF_I w0 w p v (q :: t)) (h8 : t.length ≤ 8) (hs : w0.heap.size ≤ w.heap.size) : Calls Tryz.prog 41 #[.pointer (some ⟨p, 0, none⟩)] w fun e w' => e = .returned (.tuple #[Lv q.x q.ad q.cap, .bool true]) ∧ ∃ v', IsF_I w0 w' p v' t ∧ OwnsJ w' q.sl q.x.args ∧ Kept [p] w w' ∧ Fresh w v' := by
 obtain ⟨av, cv, rfl, hv1, hv2⟩ := hF.own.row.form
 have hc := cell_of_one hF.box
 have hf := free_of_one hF.box
 obtain ⟨b, o, rfl, d0, d1, d2, d3⟩ := hF.own.row.at (j := 0) (q := q) rfl
 have hlt := hF.lt
 have hlb : b < w.heap.size := World.block_lt_of_cell? w _ d0
 have HF := Hid.mk hF
 clear hF
 rw [Nat.zero_mul, Nat.add_zero] at *
 rw [List.length_cons] at *
 obtain ⟨W0, e0, k0, hz0, hb0, hb1⟩ := box2 w (.cells #[.string { data := #[] }, .int .u64 0, .int .i64 0, .slice none 0 0] 81) (.cells #[Sv q.x.fr, .int .u64 (q.x.ser : Int), .int .i64 q.x.kind, q.sl] 81)
 have hO : OwnsR 81 4 (W0.alloc (.cells #[] 81)) (.slice (some ⟨w.heap.size + 2, 0, none⟩) 0 0) [] := by
  have := World.ownsRow_made (base := 0) (e := 81) (size := 4) W0 #[] 0 (Nat.zero_le _) (by simp) (by simp)
  rw [hz0] at this
  exact this
 have k1 := k0.alloc (.cells #[] 81)
 have hb2 : (W0.alloc (.cells #[] 81)).heap[w.heap.size]? = _ := (Below.heap_alloc _ _ _ (by omega)).trans hb0
 have hb3 : (W0.alloc (.cells #[] 81)).heap[w.heap.size + 1]? = _ := (Below.heap_alloc _ _ _ (by omega)).trans hb1
 have HZ : Hid (w.heap.size + 3 = (W0.alloc (.cells #[] 81)).heap.size) := Hid.mk (by simp [hz0])
 have hcA := k1.cell_eq hc
 rw [← e0] at hO k1 hb2 hb3 HZ hcA
 have hcut := cutQ (HF.out.own.row.kept k1 (by simp))
 obtain ⟨a2, c2, w2, hrun, ho, hg, hN⟩ := run_appendR rt28 _ 26 _ [] hO _ (CQ t) (CQ_wide t) hcut (by rw [CQ_length]; simp; omega)
 rw [List.nil_append, List.length_nil, Nat.zero_add, CQ_length] at *
 have k2 : Kept [] w w2 := k1.grown hg (by simp [Value.ownBlock])
 have hb4 : w2.heap[w.heap.size]? = _ := (hg.block w.heap.size (by have := HZ.out; omega) (by simp [Value.ownBlock])).trans hb2
 have hb5 : w2.heap[w.heap.size + 1]? = _ := (hg.block (w.heap.size + 1) (by have := HZ.out; omega) (by simp [Value.ownBlock])).trans hb3
 have hF2 := HF.out.kept0 k2
 have hcp := cell_of_one hF2.box
 have hfp := free_of_one hF2.box
 obtain ⟨x0, x1, x2, x3⟩ := cells4 hb4
 obtain ⟨f0, f1, f2, f3⟩ := free4 hb4
 obtain ⟨y0, y1, y2, y3⟩ := cells4 hb5
 have hfr : Hid (Fresh w0 (.slice a2 t.length c2)) := fun g hg' => by
  rcases hN g hg' with h | h
  ·simp [Value.ownBlock] at h; omega
  ·have := HZ.out; omega
 have hfw : Hid (Fresh w (.slice a2 t.length c2)) := fun g hg' => by
  rcases hN g hg' with h | h
  ·simp [Value.ownBlock] at h; omega
  ·have := HZ.out; omega
 have H2 : Hid (IsF_I w0 (w2.setCell ⟨p, 0, none⟩ (.slice a2 t.length c2)) p (.slice a2 t.length c2) t ∧ OwnsJ (w2.setCell ⟨p, 0, none⟩ (.slice a2 t.length c2)) q.sl q.x.args ∧ Kept [p] w (w2.setCell ⟨p, 0, none⟩ (.slice a2 t.length c2)) ∧ (w2.setCell ⟨p, 0, none⟩ (.slice a2 t.length c2)).heap[w.heap.size]? = some (.cells #[.string { data := #[] }, .int .u64 0, .int .i64 0, .slice none 0 0] 81 (0, 0))) := by
  have kp := (Kept.refl [p] w2).setCell (p := ⟨p, 0, none⟩) (.inl (by simp)) (.slice a2 t.length c2)
  have hap : ∀ y ∈ q :: t, OwnsJ (w2.setCell ⟨p, 0, none⟩ (.slice a2 t.length c2)) y.sl y.x.args := fun y hy => (hF2.own.args y hy).kept kp (fun g hg' hm => by simp at hm; subst hm; exact ownsJ_ne (hF2.own.args y hy) hF2.box (by decide) hg')
  refine ⟨⟨one_setCell hF2.box, ⟨?_, fun y hy => hap y (by simp [hy]), hfr.out, fun y hy => HF.out.own.fra y (by simp [hy])⟩, HF.out.fr⟩, hap q (by simp), (k2.mono (by simp)).trans kp (by simp), kp.keeps hb4 (by simp; omega)⟩
  exact OwnsR.kept ho kp (fun g hg' hm => by simp at hm; subst hm; exact ownsR_ne ho hF2.box (by decide) hg')
 have HT : Hid (∃ W8, ((((w2.setCell ⟨p, 0, none⟩ (.slice a2 t.length c2)).setCell ⟨w.heap.size, 0, none⟩ (Sv q.x.fr)).setCell ⟨w.heap.size, 1, none⟩ (.int .u64 (q.x.ser : Int))).setCell ⟨w.heap.size, 2, none⟩ (.int .i64 q.x.kind)).setCell ⟨w.heap.size, 3, none⟩ q.sl = W8 ∧ W8.heap[w.heap.size]? = some (.cells #[Sv q.x.fr, .int .u64 (q.x.ser : Int), .int .i64 q.x.kind, q.sl] 81 (0, 0)) ∧ IsF_I w0 W8 p (.slice a2 t.length c2) t ∧ OwnsJ W8 q.sl q.x.args ∧ Kept [p] w W8 ∧ Fresh w (.slice a2 t.length c2)) := by
  obtain ⟨i1, i2, i3, i4⟩ := H2.out
  obtain ⟨W8, e8, k8, h8, -⟩ := put4 i4 (Sv q.x.fr) (.int .u64 (q.x.ser : Int)) (.int .i64 q.x.kind) q.sl
  refine ⟨W8, e8, h8, ⟨k8.keeps i1.box (by simp; omega), i1.own.kept k8 (fun y hy => ?_), i1.fr⟩, i2.kept k8 (fun g hg' hm => ?_), i3.trans k8 (by simp), hfw.out⟩
  ·simp at hy
   subst hy
   refine ⟨fun hh => ?_, fun y hy => ownsJ_ne (i1.own.args y hy) i4 (by decide)⟩
   rcases hN _ hh with h | h
   ·simp [Value.ownBlock] at h
   ·have := HZ.out; omega
  ·simp at hm; subst hm; exact ownsJ_ne i2 i4 (by decide) hg'
 have hpn : p ≠ w.heap.size := by omega
 have hpn1 : p ≠ w.heap.size + 1 := by omega
 clear hF2 hb4 hb5 hb2 hb3 hO hg hN k1 k0 hb0 hb1 e0 HZ ho hz0 k2
 by_cases hcv : cv = 1
 ·subst hcv
  rw [if_pos rfl] at hrun
  have ht0 : t = [] := List.eq_nil_of_length_eq_zero (by omega)
  subst ht0
  go_enter Tryz.func41, Tryz.ntmps41
  go_wp2_with (at_builtin; refine wpList_append_run 26 26 _ _ rfl (by rfl) _ _ rfl rfl _ _ hrun ?_)
  obtain ⟨W8, e8, h9, j1, j2, j3, j4⟩ := HT.out
  refine Eq.mpr (congrArg (bodyPost Tryz.prog Tryz.f41 _ _ _) e8) ?_
  refine bodyPost_ret (results_cell_row2 (p := 2) (u := 3) (ty := 81) rfl _ _ w.heap.size 81 _ (0, 0) _ rfl h9 Tryz.underlying81 rfl (by kernel_rfl) _ rfl) rfl ?_
  exact ⟨rfl, _, j1, j2, j3, j4⟩
 ·rw [if_neg hcv] at hrun
  go_enter Tryz.func41, Tryz.ntmps41
  go_wp2_with (at_builtin; refine wpList_append_run 26 26 _ _ rfl (by rfl) _ _ rfl rfl _ _ hrun ?_)
  obtain ⟨W8, e8, h9, j1, j2, j3, j4⟩ := HT.out
  refine Eq.mpr (congrArg (bodyPost Tryz.prog Tryz.f41 _ _ _) e8) ?_
  refine bodyPost_ret (results_cell_row2 (p := 2) (u := 3) (ty := 81) rfl _ _ w.heap.size 81 _ (0, 0) _ rfl h9 Tryz.underlying81 rfl (by kernel_rfl) _ rfl) rfl ?_
  exact ⟨rfl, _, j1, j2, j3, j4⟩
end
section
variable {w0 w w' : World} {f fj fi fo : Nat} {a b : Ac} {t : Int} {v : Value}
theorem FA.set3 (h : FA w0 w f fj fi fo t v a) (x : Int) : FA w0 (w.setCell ⟨f, 3, none⟩ (Iv x)) f fj fi fo x v a := by
 obtain ⟨h1, ⟨u1, h2, h3⟩, ⟨u2, qs, h4, h5⟩, ⟨u3, x3, ys, h6, h7⟩, h8, h9⟩ := h
 have T1 := TT.set (i := 3) h1 h8 (Iv x)
 exact ⟨set_list (L := [_, _, _, _, _]) h1, ⟨u1, T1.isFJ h2 (by decide) (by decide), h3⟩, ⟨u2, qs, T1.isFI h4 (by decide) (by decide) (by decide), h5⟩, ⟨u3, x3, ys, T1.isFO h6 (by decide) (by decide) (by decide) (by decide), h7⟩, h8, h9⟩
theorem FA.set4 (h : FA w0 w f fj fi fo t v a) (x : Value) : FA w0 (w.setCell ⟨f, 4, none⟩ x) f fj fi fo t x a := by
 obtain ⟨h1, ⟨u1, h2, h3⟩, ⟨u2, qs, h4, h5⟩, ⟨u3, x3, ys, h6, h7⟩, h8, h9⟩ := h
 have T1 := TT.set (i := 4) h1 h8 x
 exact ⟨set_list (L := [_, _, _, _, _]) h1, ⟨u1, T1.isFJ h2 (by decide) (by decide), h3⟩, ⟨u2, qs, T1.isFI h4 (by decide) (by decide) (by decide), h5⟩, ⟨u3, x3, ys, T1.isFO h6 (by decide) (by decide) (by decide) (by decide), h7⟩, h8, h9⟩
theorem FA.as (h : FA w0 w f fj fi fo t v a) (e1 : b.j = a.j) (e2 : b.inb = a.inb) (e3 : b.out = a.out) : FA w0 w f fj fi fo t v b := by
 obtain ⟨h1, h2, h3, h4, h5, h6⟩ := h
 exact ⟨h1, by rw [e1]; exact h2, by rw [e2]; exact h3, by rw [e3]; exact h4, h5, h6⟩
theorem FA.putI (h : FA w0 w f fj fi fo t v a) {u : Value} {qs : List Lq} (hF : IsF_I w0 w' fi u qs) (k : Kept [fi] w w') : FA w0 w' f fj fi fo t v ⟨a.j, qs.map (·.x), a.out, a.tries, a.poi⟩ := by
 obtain ⟨h1, ⟨u1, h2, h3⟩, ⟨u2, qs0, h4, h5⟩, ⟨u3, x3, ys, h6, h7⟩, h8, h9⟩ := h
 have T1 := TT.one h4.box h4.fr k
 exact ⟨T1.box h1 (by decide), ⟨u1, T1.isFJ h2 (by decide) (by decide), h3⟩, ⟨u, qs, hF, rfl⟩, ⟨u3, x3, ys, T1.isFO h6 (by decide) (by decide) (by decide) (by decide), h7⟩, h8, h9⟩
theorem FA.putJ (h : FA w0 w f fj fi fo t v a) {u1 : Value} (hu : IsF_J w fj u1 a.j) (hf : Fresh w0 u1) (hs : w0.heap.size ≤ w.heap.size) {j : Jn} (hJ : Fst w w' fj u1 j) : FA w0 w' f fj fi fo t v ⟨j, a.inb, a.out, a.tries, a.poi⟩ ∧ TT [137, 93] w0 w w' := by
 obtain ⟨h1, ⟨u1', h2, h3⟩, ⟨u2, qs, h4, h5⟩, ⟨u3, x3, ys, h6, h7⟩, h8, h9⟩ := h
 obtain ⟨⟨u', hF, hN⟩, k1⟩ := hJ
 have T1 := TT.ofFJ hu h9 hf k1
 refine ⟨⟨T1.box h1 (by decide), ⟨u', hF, fun g hg => ?_⟩, ⟨u2, qs, T1.isFI h4 (by decide) (by decide) (by decide), h5⟩, ⟨u3, x3, ys, T1.isFO h6 (by decide) (by decide) (by decide) (by decide), h7⟩, h8, h9⟩, T1⟩
 rcases hN g hg with h | h
 ·exact hf g h
 ·omega
theorem FA.putO (h : FA w0 w f fj fi fo t v a) {o : Ob} {u x u' x' : Value} {ys ys' : List Yq} (hO : IsF w0 w fo u x a.out.own a.out.K ys) (hO' : IsF w0 w' fo u' x' o.own o.K ys') (hm : ys'.map ot = o.L) (k : Kept (footF fo u x) w w') : FA w0 w' f fj fi fo t v ⟨a.j, a.inb, o, a.tries, a.poi⟩ ∧ TT [124, 131, 198] w0 w w' := by
 obtain ⟨h1, ⟨u1, h2, h3⟩, ⟨u2, qs, h4, h5⟩, ⟨u3, x3, ys3, h6, h7⟩, h8, h9⟩ := h
 have T1 := TT.ofFO hO k
 exact ⟨⟨T1.box h1 (by decide), ⟨u1, T1.isFJ h2 (by decide) (by decide), h3⟩, ⟨u2, qs, T1.isFI h4 (by decide) (by decide) (by decide), h5⟩, ⟨u', x', ys', hO', hm⟩, h8, h9⟩, T1⟩
def SndF (w0 w : World) (f fj fi fo : Nat) (t : Int) (v : Value) (a : Ac) (to : List UInt8) (kind arg : Int) (e : Ending) (w' : World) : Prop :=
 (okSnd a.out to = true ∧ (∃ r, e = .returned (.tuple #[r, .int .i64 0])) ∧ FA w0 w' f fj fi fo t v ⟨a.j, a.inb, sendO a.out to kind [arg], a.tries, a.poi⟩ ∧ TT [124, 131, 198] w0 w w') ∨
 (okSnd a.out to = false ∧ (∃ r, e = .returned (.tuple #[r, .int .i64 1]) ∨ e = .returned (.tuple #[r, .int .i64 6])) ∧ w = w')
theorem sendF_any (h : FA w0 w f fj fi fo t v a) (g : GoodO a.out) {B : Nat} (hB : SerB a.out B) (h6 : B < 4611686018427387904) (hs : w0.heap.size ≤ w.heap.size) (to : List UInt8) (ht : to.length ≤ 1000) (kind arg : Int) (ad : Option Addr)
  (hx : OwnsJ w (.slice ad 1 1) [arg]) : Calls Tryz.prog 27 #[Ptr fo, Sv to, .int .i64 kind, .slice ad 1 1] w (SndF w0 w f fj fi fo t v a to kind arg) := by
 obtain ⟨u3, x3, ys, h6', h7⟩ := h.o
 have hyl : ys.length = a.out.L.length := by rw [← h7, List.length_map]
 have hln := g.ln
 have hkn := g.kn
 by_cases hc : okSnd a.out to = true
 ·obtain ⟨c1, c2, c3⟩ := (okSnd_iff a.out to).1 hc
  have hse := hB.le to
  have h64 : hasK a.out.K to = true ∨ a.out.K.length < 64 := by rcases c3 with h | h; exact .inl h; right; omega
  refine (send29_ok h6' hkn hs to ⟨a.out.own, ser a.out.K to + 1, kind, [arg]⟩ ad 1 c1 (by simp) (fun W kW => (hx.kept kW (fun g hg hm => by
   rcases mem_footF.1 hm with e | e | e
   ·subst e; exact ownsJ_ne hx h6'.box (by decide) hg
   ·exact own_apart hx h6'.ys.own (by decide) hg e
   ·exact own_apart hx h6'.ks (by decide) hg e)).reads) rfl rfl (by omega) h64 (by omega)).mono ?_
  rintro e w1 ⟨rfl, v', u', a1, c1', hF1, k1⟩
  obtain ⟨q1, q2⟩ := h.putO (o := sendO a.out to kind [arg]) h6' hF1 (by simp [sendO, h7, ot]) k1
  exact .inl ⟨hc, ⟨_, rfl⟩, q1, q2⟩
 ·have hc' : okSnd a.out to = false := by simpa using hc
  by_cases hr : isKey to = false
  ·refine (send29_arg to kind ad 1 1 _ (by omega) (by omega) (.inl hr)).mono ?_
   rintro e w1 ⟨rfl, rfl⟩
   exact .inr ⟨hc', ⟨_, .inl rfl⟩, rfl⟩
  ·have hkey : isKey to = true := by simpa using hr
   refine (send29_full h6' hkn (by omega) to kind ad 1 1 hkey (by omega) ?_).mono ?_
   ·rw [hyl]
    by_cases h32 : a.out.L.length = 32
    ·exact .inl h32
    ·right
     by_cases h64 : a.out.K.length = 64
     ·cases hh : hasK a.out.K to with
      | true => exact absurd ((okSnd_iff a.out to).2 ⟨hkey, h32, .inl hh⟩) hc
      | false => exact ⟨rfl, h64⟩
     ·exact absurd ((okSnd_iff a.out to).2 ⟨hkey, h32, .inr h64⟩) hc
   ·rintro e w1 ⟨rfl, rfl⟩
    exact .inr ⟨hc', ⟨_, .inr rfl⟩, rfl⟩
end
structure IsRt (n : Nat) (w : World) (v : Value) (R : Rsl) : Prop where
 form : ∃ ev sn tm, v = .agg (cellsR R.reg ev sn tm R.k).toArray ∧ OwnsR 93 2 w ev (rowE R.ev) ∧ OwnsR 117 3 w sn (rowS R.sent) ∧ OwnsR 193 5 w tm (rowT R.tm) ∧ (∀ g, ev.ownBlock = some g → n ≤ g) ∧ (∀ g, sn.ownBlock = some g → n ≤ g) ∧ (∀ g, tm.ownBlock = some g → n ≤ g)
 r8 : R.reg.length = 8
theorem isRt_none {n : Nat} (w : World) (k : Nat) : IsRt n w (.agg (cellsR z8_N (.slice none 0 0) (.slice none 0 0) (.slice none 0 0) k).toArray) (Rsl.none k) := ⟨⟨_, _, _, rfl, OwnsR.nil 93 2 w, OwnsR.nil 117 3 w, OwnsR.nil 193 5 w, fun g h => by simp [Value.ownBlock] at h, fun g h => by simp [Value.ownBlock] at h, fun g h => by simp [Value.ownBlock] at h⟩, rfl⟩
theorem FSt.toldT {B : Bs} {w : World} {p : Nat} {m : Mc} {k : Nat} (h : FSt B w p m k) : ∃ ev sn tm, (∃ pre, pre.length = 9 ∧ w.heap[p]? = some (.cells (pre ++ cellsR m.reg ev sn tm k).toArray 189 (0, 0))) ∧ ev.oneCell' = true ∧ sn.oneCell' = true ∧ tm.oneCell' = true ∧ ∀ W g, g < B.w0.heap.size → Kept [g] w W → ∀ n, n ≤ B.w0.heap.size → IsRt n W (.agg (cellsR m.reg ev sn tm k).toArray) ⟨m.reg, m.ev, m.sent, m.tm, k⟩ := by
 obtain ⟨sv, ev, sn, tm, h⟩ := h
 refine ⟨ev, sn, tm, ⟨_, h.len, h.rs.box⟩, ?_, ?_, ?_, fun W g hg kk n hn => ⟨⟨ev, sn, tm, rfl, h.rs.ev.own.kept kk ?_, h.rs.sn.own.kept kk ?_, h.rs.tm.own.kept kk ?_, fun g' h' => Nat.le_trans hn (h.rs.ev.new g' h'), fun g' h' => Nat.le_trans hn (h.rs.sn.new g' h'), fun g' h' => Nat.le_trans hn (h.rs.tm.new g' h')⟩, h.rs.r8⟩⟩
 ·obtain ⟨a, c, rfl, -⟩ := h.rs.ev.form; rfl
 ·obtain ⟨a, c, rfl, -⟩ := h.rs.sn.form; rfl
 ·obtain ⟨a, c, rfl, -⟩ := h.rs.tm.form; rfl
 ·intro g' h1 h2; have := h.rs.ev.new g' h1; simp at h2; omega
 ·intro g' h1 h2; have := h.rs.sn.new g' h1; simp at h2; omega
 ·intro g' h1 h2; have := h.rs.tm.new g' h1; simp at h2; omega
section
variable {w : World} {nv cv av : Value} {p : Pg} {reg : List Int} {l : Lt} {now : Int}
set_option maxHeartbeats 4000000 in
theorem run13T_no (hI : Ins w nv cv av p reg l now) (hm : mayI p l now = false) : Calls Tryz.prog 39 #[.agg #[nv, cv], .agg (BI_N reg).toArray, .agg #[.string ⟨l.fr.toArray⟩, .int .u64 (l.ser : Int), .int .i64 l.kind, av], .int .i64 now] w fun e w' => ∃ v, e = .returned (.tuple #[v, .int .i64 1]) ∧ IsRt w.heap.size w' v (Rsl.none 0) ∧ Kept [] w w' := by
 obtain ⟨a0, a1, a2, a3, a4, a5, a6, a7, rfl⟩ := eight_of hI.r8
 obtain ⟨a, c, b, d, rfl, rfl, hl1, hl2⟩ := hI.prog.form
 obtain ⟨aa, ac, rfl, ha1, ha2⟩ := hI.args.form
 rw [rowJ_length] at *
 show Calls Tryz.prog 39 #[_, .agg #[.int .i64 a0, .int .i64 a1, .int .i64 a2, .int .i64 a3, .int .i64 a4, .int .i64 a5, .int .i64 a6, .int .i64 a7], _, _] w _
 obtain ⟨W0, e0, k0, hz0, hb0, hb1, hb2, hb3⟩ := box4 w (.cells #[.slice a p.names.length c, .slice b p.code.length d] 25) (.cells #[.int .i64 a0, .int .i64 a1, .int .i64 a2, .int .i64 a3, .int .i64 a4, .int .i64 a5, .int .i64 a6, .int .i64 a7] 84) (.cells #[.string ⟨l.fr.toArray⟩, .int .u64 (l.ser : Int), .int .i64 l.kind, .slice aa l.args.length ac] 81) (.cells #[.int .i64 0, .int .i64 0, .int .i64 0, .int .i64 0, .int .i64 0, .int .i64 0, .int .i64 0, .int .i64 0, .slice none 0 0, .slice none 0 0, .slice none 0 0, .int .i64 0] 113)
 have hb3 : W0.heap[w.heap.size + 1 + 1 + 1]? = some (.cells (cellsR z8_N (.slice none 0 0) (.slice none 0 0) (.slice none 0 0) 0).toArray 113 (0, 0)) := hb3
 obtain ⟨y0, y1⟩ := cells2_N hb0
 obtain ⟨x0, x1, x2, x3⟩ := cells4 hb2
 have HF := Hid.mk (formed14_N (hI.prog.keep k0) hI.names)
 have HL := Hid.mk (fun W => lformed21 (w := W) l aa ac hI.fr (by omega))
 have HB2 := Hid.mk hb2
 have HE : Hid (∀ W, Kept [] W0 W → ∃ W', (Instr.storeAt 113 (.pointer (some ⟨w.heap.size + 1 + 1 + 1, 0, none⟩)) (.agg (cellsR z8_N (.slice none 0 0) (.slice none 0 0) (.slice none 0 0) 0).toArray)).run Tryz.prog W = .ok () W' ∧ W'.heap[w.heap.size + 1 + 1 + 1]? = some (.cells (cellsR z8_N (.slice none 0 0) (.slice none 0 0) (.slice none 0 0) 0).toArray 113 (0, 0)) ∧ Kept [] w W') := fun W kW => by
  obtain ⟨W', h1, h2, h3⟩ := store_whole (P := Tryz.prog) (kW.keeps hb3 (by simp)) rfl size49 (cellsR_one rfl rfl rfl)
  exact ⟨W', h1, h2, (k0.then kW).trans h3 (fun x hx => .inr (by simp at hx; omega))⟩
 clear hb0 hb1 hb2 hb3 hI k0 hz0
 unfold mayI at hm
 cases hf : formedP p with
 | false =>
  rw [hf] at HF
  clear hm HL
  go_enter Tryz.func39, Tryz.ntmps39
  go_wp2_with (first | (go_at_call 19; refine HF.out.mono ?_; rintro e w1 ⟨rfl, k1⟩; obtain ⟨W2, hst, hb, kk⟩ := HE.out w1 k1) | (refine wpList_store_run_N 113 (.tmp 8) (.tmp 25) rfl rfl _ _ rfl rfl _ hst ?_))
  exact bodyPost_ret (results_cell_row2 (p := 8) (u := 9) (ty := 113) rfl _ _ (w.heap.size + 1 + 1 + 1) 113 _ (0, 0) _ rfl hb Tryz.underlying113 rfl (by kernel_rfl) _ rfl) rfl ⟨_, rfl, isRt_none _ 0, kk⟩
 | true =>
  rw [hf] at HF hm
  cases hlf : l.formed with
  | false =>
   rw [hlf] at HL
   clear hm
   go_enter Tryz.func39, Tryz.ntmps39
   go_wp2_with (first | (go_at_call 19; refine HF.out.mono ?_; rintro e w1 ⟨rfl, k1⟩; obtain ⟨v0, v1, v2, v3⟩ := cells4 (k1.keeps HB2.out (by simp))) | (go_at_call 78; refine (HL.out _).mono ?_; rintro e w2 ⟨rfl, k2⟩; obtain ⟨W2, hst, hb, kk⟩ := HE.out w2 (k1.then k2)) | (refine wpList_store_run_N 113 (.tmp 8) (.tmp 25) rfl rfl _ _ rfl rfl _ hst ?_))
   exact bodyPost_ret (results_cell_row2 (p := 8) (u := 9) (ty := 113) rfl _ _ (w.heap.size + 1 + 1 + 1) 113 _ (0, 0) _ rfl hb Tryz.underlying113 rfl (by kernel_rfl) _ rfl) rfl ⟨_, rfl, isRt_none _ 0, kk⟩
  | true =>
   rw [hlf] at HL hm
   have hneg : now < 0 := by simpa using hm
   clear hm
   go_enter Tryz.func39, Tryz.ntmps39
   go_wp2_with (first | (go_at_call 19; refine HF.out.mono ?_; rintro e w1 ⟨rfl, k1⟩; obtain ⟨v0, v1, v2, v3⟩ := cells4 (k1.keeps HB2.out (by simp))) | (go_at_call 78; refine (HL.out _).mono ?_; rintro e w2 ⟨rfl, k2⟩; obtain ⟨W2, hst, hb, kk⟩ := HE.out w2 (k1.then k2)) | (refine wpList_store_run_N 113 (.tmp 8) (.tmp 25) rfl rfl _ _ rfl rfl _ hst ?_))
   exact bodyPost_ret (results_cell_row2 (p := 8) (u := 9) (ty := 113) rfl _ _ (w.heap.size + 1 + 1 + 1) 113 _ (0, 0) _ rfl hb Tryz.underlying113 rfl (by kernel_rfl) _ rfl) rfl ⟨_, rfl, isRt_none _ 0, kk⟩
set_option maxHeartbeats 8000000 in
theorem run13T_yes (hI : Ins w nv cv av p reg l now) (hm : mayI p l now = true) (R : Rsl × Int) (hR : R = endI (runI p l now 500 0 (Mc.start reg))) : Calls Tryz.prog 39 #[.agg #[nv, cv], .agg (BI_N reg).toArray, .agg #[.string ⟨l.fr.toArray⟩, .int .u64 (l.ser : Int), .int .i64 l.kind, av], .int .i64 now] w fun e w' => ∃ v, e = .returned (.tuple #[v, .int .i64 R.2]) ∧ IsRt w.heap.size w' v R.1 ∧ Kept [] w w' := by
 have HG := Hid.mk (fun W k => good_of (W := W) hI k hm)
 have HS := Hid.mk (Sound.start (now := now) hI.regs)
 obtain ⟨hf, hlf, hnow⟩ := may_parts hm
 have hr8 := hI.r8
 obtain ⟨a0, a1, a2, a3, a4, a5, a6, a7, hreg⟩ := eight_of hI.r8
 obtain ⟨a, c, b, d, rfl, rfl, hl1, hl2⟩ := hI.prog.form
 obtain ⟨aa, ac, rfl, ha1, ha2⟩ := hI.args.form
 rw [rowJ_length] at *
 rw [show (BI_N reg).toArray = #[.int .i64 a0, .int .i64 a1, .int .i64 a2, .int .i64 a3, .int .i64 a4, .int .i64 a5, .int .i64 a6, .int .i64 a7] by rw [hreg]; rfl]
 obtain ⟨W0, e0, k0, hz0, hb0, hb1, hb2, hb3⟩ := box4 w (.cells #[.slice a p.names.length c, .slice b p.code.length d] 25) (.cells #[.int .i64 a0, .int .i64 a1, .int .i64 a2, .int .i64 a3, .int .i64 a4, .int .i64 a5, .int .i64 a6, .int .i64 a7] 84) (.cells #[.string ⟨l.fr.toArray⟩, .int .u64 (l.ser : Int), .int .i64 l.kind, .slice aa l.args.length ac] 81) (.cells #[.int .i64 0, .int .i64 0, .int .i64 0, .int .i64 0, .int .i64 0, .int .i64 0, .int .i64 0, .int .i64 0, .slice none 0 0, .slice none 0 0, .slice none 0 0, .int .i64 0] 113)
 have hb3 : W0.heap[w.heap.size + 1 + 1 + 1]? = some (.cells (cellsR z8_N (.slice none 0 0) (.slice none 0 0) (.slice none 0 0) 0).toArray 113 (0, 0)) := hb3
 obtain ⟨y0, y1⟩ := cells2_N hb0
 have HF := Hid.mk (formed14_N (hI.prog.keep k0) hI.names)
 have HL := Hid.mk (fun W => lformed21 (w := W) l aa ac hI.fr (by omega))
 rw [hf] at HF
 rw [hlf] at HL
 have HB0 := Hid.mk hb0
 have HB1 := Hid.mk hb1
 have HB2 := Hid.mk hb2
 have HK := Hid.mk k0
 have HZ := Hid.mk hz0
 have HE : Hid (∀ (W : World) (X : List Value), Kept [] W0 W → X.length = 12 → (∀ v ∈ X, v.oneCell' = true) → ∃ W', (Instr.storeAt 113 (.pointer (some ⟨w.heap.size + 1 + 1 + 1, 0, none⟩)) (.agg X.toArray)).run Tryz.prog W = .ok () W' ∧ W'.heap[w.heap.size + 1 + 1 + 1]? = some (.cells X.toArray 113 (0, 0)) ∧ Kept [w.heap.size + 1 + 1 + 1] W W' ∧ Kept [] w W') := fun W X kW hX h1 => by
  obtain ⟨W', h1, h2, h3⟩ := store_whole (P := Tryz.prog) (X := X) (kW.keeps hb3 (by simp)) (by rw [hX]; rfl) (by rw [hX]; exact size49) h1
  exact ⟨W', h1, h2, h3, (k0.then kW).trans h3 (fun x hx => .inr (by simp at hx; omega))⟩
 have HST : Hid (∀ W W4, W.alloc (.cells #[.slice a p.names.length c, .slice b p.code.length d, .string ⟨l.fr.toArray⟩, .int .u64 (l.ser : Int), .int .i64 l.kind, .slice aa l.args.length ac, .int .i64 now, .int .i64 0, .slice none 0 0, .int .i64 0, .int .i64 0, .int .i64 0, .int .i64 0, .int .i64 0, .int .i64 0, .int .i64 0, .int .i64 0, .slice none 0 0, .slice none 0 0, .slice none 0 0, .int .i64 0] 189) = W4 → ∃ W3, (Instr.storeAt 84 (.pointer (some ⟨W.heap.size, 9, none⟩)) (.agg #[.int .i64 a0, .int .i64 a1, .int .i64 a2, .int .i64 a3, .int .i64 a4, .int .i64 a5, .int .i64 a6, .int .i64 a7])).run Tryz.prog W4 = .ok () W3 ∧ FSt ⟨W, .slice a p.names.length c, .slice b p.code.length d, .slice aa l.args.length ac, p, l, now⟩ W3 W.heap.size (Mc.start reg) 0) := fun W W4 e4 => by
  rw [hreg, ← e4]
  exact start_F ⟨W, .slice a p.names.length c, .slice b p.code.length d, .slice aa l.args.length ac, p, l, now⟩ [a0, a1, a2, a3, a4, a5, a6, a7] rfl
 have HR := Hid.mk hR
 have hnow2 : ¬ now < 0 := by omega
 clear hb0 hb1 hb2 hb3 hI k0 hz0 hR hm hf hlf hreg hnow
 go_enter Tryz.func39, Tryz.ntmps39
 go_wp2_with (first | (go_at_call 19; refine HF.out.mono ?_; rintro e w1 ⟨rfl, k1⟩; obtain ⟨v0, v1, v2, v3⟩ := cells4 (k1.keeps HB2.out (by simp))) | (go_at_call 78; refine (HL.out _).mono ?_; rintro e w2 ⟨rfl, k2⟩; have K2 := Hid.mk (k1.then k2); clear k1 k2; obtain ⟨t0, t1⟩ := cells2_N (K2.out.keeps HB0.out (by simp)); obtain ⟨u0, u1, u2, u3⟩ := cells4 (K2.out.keeps HB2.out (by simp)); obtain ⟨W4, e4, k4, -, -⟩ := box1 w2 (.cells #[.slice a p.names.length c, .slice b p.code.length d, .string ⟨l.fr.toArray⟩, .int .u64 (l.ser : Int), .int .i64 l.kind, .slice aa l.args.length ac, .int .i64 now, .int .i64 0, .slice none 0 0, .int .i64 0, .int .i64 0, .int .i64 0, .int .i64 0, .int .i64 0, .int .i64 0, .int .i64 0, .int .i64 0, .slice none 0 0, .slice none 0 0, .slice none 0 0, .int .i64 0] 189); obtain ⟨s0, s1, s2, s3, s4, s5, s6, s7⟩ := cells8_N ((K2.out.then k4).keeps HB1.out (by simp)); obtain ⟨W3, hst, HM0⟩ := HST.out w2 W4 e4; have HM0 := Hid.mk HM0) | (refine wpList_store_run_N 84 (.tmp 35) (.tmp 32) rfl rfl _ _ rfl rfl _ hst ?_))
 clear hst u0 u1 u2 u3 s0 s1 s2 s3 s4 s5 s6 s7 HST HF HL e4 k4
 have HGD := Hid.mk (HG.out w2 (HK.out.then K2.out))
 have HW2 : Hid (w.heap.size + 1 + 1 + 1 < w2.heap.size) := by have := K2.out.size; have := HZ.out; show w.heap.size + 1 + 1 + 1 < w2.heap.size; omega
 clear HG
 obtain ⟨B, hB⟩ : ∃ B : Bs, (⟨w2, .slice a p.names.length c, .slice b p.code.length d, .slice aa l.args.length ac, p, l, now⟩ : Bs) = B := ⟨_, rfl⟩
 have HBw : Hid (B.w0 = w2) := by show B.w0 = w2; rw [← hB]
 have HBp : Hid (B.pg = p) := by show B.pg = p; rw [← hB]
 have HBl : Hid (B.l = l) := by show B.l = l; rw [← hB]
 have HBn : Hid (B.now = now) := by show B.now = now; rw [← hB]
 rw [hB] at HM0 HGD
 have HRA : Hid (RunAt B reg R (Mc.start reg) 0) := ⟨by omega, by rw [HBn.out]; exact HS.out, by rw [HBp.out, HBl.out, HBn.out]; exact HR.out⟩
 have HGP : Hid (p.code.length ≤ 200) := by have := HGD.out.1.few; rw [HBp.out] at this; exact this
 have hlen := HGP.out
 have HFI : Hid (∀ (m : Mc), m.at_ < p.code.length → ∃ (i : Nat) (arg : Int), B.pg.code[m.at_]? = some ⟨(i : Int), arg⟩ ∧ Fit B.pg i arg ∧ Named ⟨(i : Int), arg⟩ ∧ Told B.pg ⟨(i : Int), arg⟩) := fun m hm => by
  rw [← HBp.out] at hm
  have e1 : B.pg.code[m.at_]? = some B.pg.code[m.at_] := List.getElem?_eq_getElem hm
  have hmem := List.getElem_mem hm
  rw [← HBp.out] at HGD
  obtain ⟨o, ho, hf⟩ := fit_of (HGD.out.2.2.2.2 _ hmem)
  have e2 : B.pg.code[m.at_] = ⟨(o : Int), B.pg.code[m.at_].arg⟩ := by rw [← ho]
  rw [e2] at e1
  exact ⟨o, _, e1, hf, by rw [← e2]; exact HGD.out.2.2.1 _ hmem, by rw [← e2]; exact HGD.out.2.2.2.1 _ hmem⟩
 clear hB HS HR HZ
 generalize hq : w2.heap.size = q at *
 have HQ := Hid.mk hq
 clear hq
 have HI0 : Hid (FSt B W3 q (Mc.start reg) 0 ∧ RunAt B reg R (Mc.start reg) 0) := ⟨HM0.out, HRA.out⟩
 clear HM0 HRA t0 t1 y0 y1
 go_frame
 go_loopw [] (fun wr => ∃ (m : Mc) (k : Nat), k ≤ 500 ∧ Hid (FSt B wr q m k ∧ RunAt B reg R m k)) (fun wr => 501 - natAt wr q 20)
 case atStart => exact ⟨_, 0, by omega, HI0⟩
 case round =>
  obtain ⟨m, k, hk, H⟩ := hrel
  have kr : Kept [] w2 wr := by rw [← HBw.out]; exact H.out.1.kept
  obtain ⟨t0, t1⟩ := cells2_N ((K2.out.then kr.drew).keeps HB0.out (by simp))
  have H := Hid.mk (⟨H.out.1.keep (Kept.refl [] wr).drew, H.out.2⟩ : FSt B wr.drew q m k ∧ RunAt B reg R m k)
  have HMEA := Hid.mk (natAt_eq (show wr.cell? ⟨q, 20, none⟩ = some (.int .i64 (k : Int)) from H.out.1.c_k))
  have c7 := H.out.1.c_at
  have HKR := Hid.mk (K2.out.then kr.drew)
  clear kr
  generalize natAt wr q 20 = mea at *
  go_wp2_with fail
  go_region
  generalize wr.drew = wo at *
  have c36 := H.out.1.c_k
  by_cases hlt : m.at_ < p.code.length
  ·have hltI : (m.at_ : Int) < (p.code.length : Int) := by omega
   obtain ⟨i, arg, hi, hF, hN, hT⟩ := HFI.out m hlt
   by_cases h5 : k = 500
   ·subst h5
    have HO := Hid.mk (H.out.2.out (by rw [HBp.out]; exact hlt))
    obtain ⟨W6, hst, hb6, k6, k7⟩ := HE.out wo (cellsR z8_N (.slice none 0 0) (.slice none 0 0) (.slice none 0 0) 500) HKR.out rfl (cellsR_one rfl rfl rfl)
    clear hF hN hT hi
    go_wp2_with ((refine wpList_store_run_N 113 (.tmp 8) (.tmp 50) rfl rfl _ _ rfl rfl _ hst ?_))
    exact bodyPost_ret (results_cell_row2 (p := 8) (u := 9) (ty := 113) rfl _ _ (w.heap.size + 1 + 1 + 1) 113 _ (0, 0) _ rfl hb6 Tryz.underlying113 rfl (by kernel_rfl) _ rfl) rfl ⟨_, by rw [HO.out]; rfl, by rw [HO.out]; exact isRt_none _ 500, k7⟩
   ·have hk5 : k < 500 := by omega
    have hkI : ((k : Int) == 500) = false := by simp only [beq_eq_false_iff_ne, ne_eq]; omega
    obtain ⟨f20, hP⟩ := H.out.1.put_k
    have q9 : ((k + 1 : Nat) : Int) = (k : Int) + 1 := by omega
    rw [q9] at hP
    obtain ⟨w4, e4⟩ : ∃ w4, wo.setCell ⟨q, 20, none⟩ (.int .i64 ((k : Int) + 1)) = w4 := ⟨_, rfl⟩
    rw [e4] at hP
    have HC := Hid.mk (one22_any HGD.out.1 hP hi hF H.out.2.lite H.out.2.sound.fine.st H.out.2.sound.wide.st)
    obtain ⟨R1, R2, R3⟩ := H.out.2.step (by rw [HBp.out, HBl.out, HBn.out]; exact HGD.out.2.1) hi hN hT hk5
    clear hP q9
    cases ho : oneI B.pg B.l B.now m ⟨(i : Int), arg⟩ with
    | go m' =>
     have HX := Hid.mk (R1 m' ho)
     rw [ho] at HC
     clear R1 R2 R3 ho hF hN hT hi
     go_wp2_with (go_at_call 101; refine HC.out.mono ?_; rintro e w5 ⟨bb, cc, rfl, rfl, rfl, h5⟩; have HN5 := Hid.mk (natAt_eq h5.c_k); have H5 := Hid.mk h5; clear h5)
     go_roundw
     case rel => exact ⟨m', k + 1, by omega, Hid.mk ⟨H5.out, HX.out⟩⟩
     case measure => rw [HN5.out, HMEA.out]; omega
    | halt m' =>
     have HX := Hid.mk (R2 m' B.pg.code.length ho (Nat.le_refl _)).2
     rw [ho] at HC
     clear R1 R2 R3 ho hF hN hT hi
     go_wp2_with (first | (go_at_call 101; refine HC.out.mono ?_; rintro e w5 ⟨bb, cc, rfl, rfl, rfl, h5⟩; have H5 := Hid.mk h5; clear h5; have kr5 : Kept [] w2 w5 := (by rw [← HBw.out]; exact H5.out.kept); obtain ⟨ev, sn, tm, ⟨pre, hp9, hbm⟩, o1, o2, o3, HT⟩ := H5.out.toldT; have hR8 := H5.out.r8; have hld : (Instr.loadAt 113 (.pointer (some ⟨q, 9, none⟩))).run Tryz.prog w5 = .ok (.agg (cellsR m'.reg ev sn tm (k + 1)).toArray) w5 := load_mid 9 hbm hp9 113 _ rfl Tryz.underlying113 (by rw [cellsR_length, hR8]; exact size49); obtain ⟨W6, hst, hb6, k6, k7⟩ := HE.out w5 (cellsR m'.reg ev sn tm (k + 1)) (K2.out.then kr5) (by rw [cellsR_length, hR8]) (cellsR_one o1 o2 o3); have HRES := Hid.mk (HT W6 (w.heap.size + 1 + 1 + 1) (by rw [HBw.out, HQ.out]; exact HW2.out) k6 w.heap.size (by rw [HBw.out, HQ.out]; exact Nat.le_of_lt (Nat.lt_of_le_of_lt (by omega) HW2.out))); have HSZ : Hid ((cellsR m'.reg ev sn tm (k + 1)).length = 12) := (by show (cellsR m'.reg ev sn tm (k + 1)).length = 12; rw [cellsR_length, hR8]); clear HT hbm hp9 hR8 o1 o2 o3 k6 kr5; generalize cellsR m'.reg ev sn tm (k + 1) = X at *) | (refine wpList_load_run_N 113 (.tmp 78) rfl rfl _ rfl _ hld ?_) | (refine wpList_store_run_N 113 (.tmp 8) (.tmp 79) rfl rfl _ _ rfl rfl _ hst ?_))
     exact bodyPost_ret (results_cell_row2 (p := 8) (u := 9) (ty := 113) rfl _ _ (w.heap.size + 1 + 1 + 1) 113 _ (0, 0) _ rfl hb6 Tryz.underlying113 rfl (by rw [List.size_toArray, HSZ.out]; exact size49) _ rfl) rfl ⟨_, by rw [HX.out]; rfl, by rw [HX.out]; exact HRES.out, k7⟩
    | err ee =>
     obtain ⟨hne, hRR⟩ := R3 ee ho
     have HO := Hid.mk hRR
     rw [ho] at HC
     have hne' : (ee != 0) = true := by simpa using hne
     clear R1 R2 R3 ho hF hN hT hi hRR
     go_wp2_with (first | (go_at_call 101; refine HC.out.mono ?_; rintro e w5 ⟨bb, cc, rfl, rfl, rfl, m5, h5⟩; have c9 := h5.c_k; have kr5 : Kept [] w2 w5 := (by rw [← HBw.out]; exact h5.kept); obtain ⟨W6, hst, hb6, k6, k7⟩ := HE.out w5 (cellsR z8_N (.slice none 0 0) (.slice none 0 0) (.slice none 0 0) (k + 1)) (K2.out.then kr5) rfl (cellsR_one rfl rfl rfl); clear h5 kr5) | (refine wpList_store_run_N 113 (.tmp 8) (.tmp 72) rfl rfl _ _ rfl rfl _ hst ?_))
     exact bodyPost_ret (results_cell_row2 (p := 8) (u := 9) (ty := 113) rfl _ _ (w.heap.size + 1 + 1 + 1) 113 _ (0, 0) _ rfl hb6 Tryz.underlying113 rfl (by kernel_rfl) _ rfl) rfl ⟨_, by rw [HO.out]; rfl, by rw [HO.out]; exact isRt_none _ (k + 1), k7⟩
  ·have hltI : ¬ (m.at_ : Int) < (p.code.length : Int) := by omega
   have HO := Hid.mk (H.out.2.ended (by rw [HBp.out]; omega))
   obtain ⟨ev, sn, tm, ⟨pre, hp9, hbm⟩, o1, o2, o3, HT⟩ := H.out.1.toldT
   have hR8 := H.out.1.r8
   have hld : (Instr.loadAt 113 (.pointer (some ⟨q, 9, none⟩))).run Tryz.prog wo = .ok (.agg (cellsR m.reg ev sn tm k).toArray) wo := load_mid 9 hbm hp9 113 _ rfl Tryz.underlying113 (by rw [cellsR_length, hR8]; exact size49)
   obtain ⟨W6, hst, hb6, k6, k7⟩ := HE.out wo (cellsR m.reg ev sn tm k) HKR.out (by rw [cellsR_length, hR8]) (cellsR_one o1 o2 o3)
   have HRES := Hid.mk (HT W6 (w.heap.size + 1 + 1 + 1) (by rw [HBw.out, HQ.out]; exact HW2.out) k6 w.heap.size (by rw [HBw.out, HQ.out]; exact Nat.le_of_lt (Nat.lt_of_le_of_lt (by omega) HW2.out)))
   have HSZ : Hid ((cellsR m.reg ev sn tm k).length = 12) := by show (cellsR m.reg ev sn tm k).length = 12; rw [cellsR_length, hR8]
   clear HT hbm hp9 hR8 o1 o2 o3 k6
   generalize cellsR m.reg ev sn tm k = X at *
   go_wp2_with (first | (refine wpList_load_run_N 113 (.tmp 78) rfl rfl _ rfl _ hld ?_) | (refine wpList_store_run_N 113 (.tmp 8) (.tmp 79) rfl rfl _ _ rfl rfl _ hst ?_))
   exact bodyPost_ret (results_cell_row2 (p := 8) (u := 9) (ty := 113) rfl _ _ (w.heap.size + 1 + 1 + 1) 113 _ (0, 0) _ rfl hb6 Tryz.underlying113 rfl (by rw [List.size_toArray, HSZ.out]; exact size49) _ rfl) rfl ⟨_, by rw [HO.out]; rfl, by rw [HO.out]; exact HRES.out, k7⟩
theorem run13T (hI : Ins w nv cv av p reg l now) : Calls Tryz.prog 39 #[.agg #[nv, cv], .agg (BI_N reg).toArray, Lval l av, .int .i64 now] w fun e w' => ∃ v, e = .returned (.tuple #[v, .int .i64 (resI p reg l now).2]) ∧ IsRt w.heap.size w' v (resI p reg l now).1 ∧ Kept [] w w' := by
 unfold resI
 cases hm : mayI p l now with
 | false => rw [if_neg (by simp)]; exact run13T_no hI hm
 | true => rw [if_pos rfl]; exact run13T_yes hI hm _ rfl
end
structure ResD (w : World) (g : Nat) (R : Rsl) (ev sn tm : Value) : Prop where
 box : w.heap[g]? = some (.cells (cellsR R.reg ev sn tm R.k).toArray 113 (0, 0))
 ev : OwnsR 93 2 w ev (rowE R.ev)
 sn : OwnsR 117 3 w sn (rowS R.sent)
 tm : OwnsR 193 5 w tm (rowT R.tm)
 r8 : R.reg.length = 8
section
variable {w w' : World} {g : Nat} {R : Rsl} {ev sn tm : Value}
end
def ResY (W0 wc : World) (g : Nat) (R : Rsl) : Prop := (∃ ev sn tm, ResD wc g R ev sn tm ∧ (∀ g', ev.ownBlock = some g' → W0.heap.size ≤ g') ∧ (∀ g', sn.ownBlock = some g' → W0.heap.size ≤ g') ∧ (∀ g', tm.ownBlock = some g' → W0.heap.size ≤ g')) ∧ Kept [] W0 wc ∧ W0.heap.size ≤ g
theorem resY_cells {n g : Nat} {W0 w4 : World} {v : Value} {R : Rsl} (h : IsRt n w4 v R) (K : Kept [] W0 w4) (hn : W0.heap.size ≤ n) : ∃ X : List Value, v = .agg X.toArray ∧ X.length = 12 ∧ ∀ g w5, w5.heap[g]? = some (.cells z12.toArray 113 (0, 0)) → W0.heap.size ≤ g → (g < n ∨ w5 = w4.alloc (.cells z12.toArray 113) ∧ g = w4.heap.size) → (w5 = w4 ∨ w5 = w4.alloc (.cells z12.toArray 113)) → ∃ W, (storeCells ⟨g, 0, none⟩ X).run Tryz.prog w5 = .ok () W ∧ ResY W0 W g R := by
 obtain ⟨⟨ev, sn, tm, rfl, h1, h2, h3, n1, n2, n3⟩, h8⟩ := h
 obtain ⟨a1, c1, f1, -⟩ := h1.form
 obtain ⟨a2, c2, f2, -⟩ := h2.form
 obtain ⟨a3, c3, f3, -⟩ := h3.form
 have hl : (cellsR R.reg ev sn tm R.k).length = 12 := by rw [cellsR_length, h8]
 refine ⟨_, rfl, hl, fun g w5 hb hg hor hw => ?_⟩
 have k5 : Kept [] w4 w5 := by
  rcases hw with rfl | rfl
  ·exact Kept.refl [] _
  ·exact (Kept.refl [] w4).alloc _
 obtain ⟨W, s1, s2, s3⟩ := store_cells (P := Tryz.prog) (X := cellsR R.reg ev sn tm R.k) hb (by rw [hl]; rfl) (cellsR_one (by rw [f1]; rfl) (by rw [f2]; rfl) (by rw [f3]; rfl))
 have keepR : ∀ {e k : Nat} {x : Value} {rs : List (List Value)}, OwnsR e k w4 x rs → 113 ≠ e → OwnsR e k W x rs := fun {e k x rs} hr hne =>
  (hr.kept k5 (by simp)).kept s3 (fun g' h' h2 => by simp at h2; subst h2; exact ownsR_ne (hr.kept k5 (by simp)) hb hne h')
 exact ⟨W, s1, ⟨ev, sn, tm, ⟨s2, keepR h1 (by decide), keepR h2 (by decide), keepR h3 (by decide), h8⟩, fun g hg => Nat.le_trans hn (n1 g hg), fun g hg => Nat.le_trans hn (n2 g hg), fun g hg => Nat.le_trans hn (n3 g hg)⟩, (K.then k5).trans s3 (fun x hx => .inr (by simp at hx; omega)), hg⟩
end Go.Proofs.YtngnenbidpojeaaGreatDoor
