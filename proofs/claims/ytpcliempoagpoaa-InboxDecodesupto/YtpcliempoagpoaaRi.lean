/-
  The document's inbox: Push, Pop, Box.
-/
import Derived.Test.YtpcliempoagpoaaBd
namespace Go.Proofs.Ytpcliempoagpoaa
open Go.RowKit
set_option linter.unusedVariables false
/-- The document's inbox at block p: its row is v, its letters are qs; all of it is new since w0. -/
structure IsF (w0 w : World) (p : Nat) (v : Value) (qs : List Lq) : Prop where
  box : w.heap[p]? = some (.cells #[v] 30 (0, 0))
  own : OwnL w0 w v qs
  fr : w0.heap.size ≤ p
section
variable {w0 w w' : World} {p pf : Nat} {v : Value} {qs ms : List Lq}
theorem IsF.lt (h : IsF w0 w p v qs) : p < w.heap.size := lt_of_block h.box
theorem ownsR_ne {e : TypeId} {k : Nat} {v : Value} {rs : List (List Value)} (h : OwnsR e k w v rs) {p : Nat} {cs : Array Value} {t : TypeId} {fz : Nat × Nat} (hp : w.heap[p]? = some (.cells cs t fz)) (ht : t ≠ e) : v.ownBlock ≠ some p := fun hg => by
  rcases h.2 with ⟨rfl, _⟩ | ⟨g1, cap, cur, rfl, _, hb, _⟩
  · simp [Value.ownBlock] at hg
  · simp [Value.ownBlock] at hg
    subst hg
    rw [hb] at hp
    injection hp with hp
    injection hp with _ hp _
    exact ht hp.symm
theorem box_ne {p p' : Nat} {cs cs' : Array Value} {t t' : TypeId} {fz fz' : Nat × Nat} (h : w.heap[p]? = some (.cells cs t fz)) (h' : w.heap[p']? = some (.cells cs' t' fz')) (ht : t ≠ t') : p ≠ p' := fun e => by
  subst e
  rw [h] at h'
  injection h' with h'
  injection h' with _ h' _
  exact ht h'
/-- What turns the document's inbox leaves the program's. -/
theorem IsB.besides (hB : IsB w p qs) (hF : IsF w0 w pf v ms) (k : Kept (foot pf v) w w') : IsB w' p qs := by
  refine hB.kept k (fun hm => ?_) (fun q hq g hg hm => ?_)
  · rcases mem_foot.1 hm with h | h
    · exact box_ne hB.box hF.box (by decide) h
    · exact ownsR_ne hF.own.own hB.box (by decide) h
  · rcases mem_foot.1 hm with h | h
    · subst h; exact ownsJ_ne (hB.args q hq) hF.box (by decide) hg
    · exact own_apart (hB.args q hq) hF.own.own (by decide) hg h
/-- What turns the program's inbox leaves the document's. -/
theorem IsF.besides (hF : IsF w0 w pf v ms) (hB : IsB w p qs) (k : Kept [p] w w') : IsF w0 w' pf v ms := by
  refine ⟨k.keeps hF.box (by simp; exact box_ne hF.box hB.box (by decide)), hF.own.kept k (fun y hy => ?_), hF.fr⟩
  simp at hy
  subst hy
  exact ⟨ownsR_ne hF.own.own hB.box (by decide), fun q hq => ownsJ_ne (hF.own.args q hq) hB.box (by decide)⟩
theorem IsF.kept0 (hF : IsF w0 w pf v ms) (k : Kept [] w w') : IsF w0 w' pf v ms := ⟨k.keeps hF.box (by simp), hF.own.kept0 k, hF.fr⟩
set_option maxRecDepth 100000 in
set_option maxHeartbeats 1000000 in
theorem rpush12 (x : Lt) (a : Option Addr) (c : Nat) (hF : IsF w0 w p v qs) (h8 : qs.length ≤ 8) (hx : ReadsJ w (.slice a x.args.length c) x.args) (hs : w0.heap.size ≤ w.heap.size) :
    Calls Try.prog 12 #[.pointer (some ⟨p, 0, none⟩), Lv x a c] w fun e w' => e = .returned (.int .i64 (pushE qs.length x)) ∧ ∃ v' qs', IsF w0 w' p v' qs' ∧ qs'.map (·.x) = pushL (qs.map (·.x)) x ∧ Kept (foot p v) w w' := by
  have HF := Hid.mk hF
  have HX := Hid.mk hx
  obtain ⟨av, cv, rfl, hv1, hv2⟩ := hF.own.row.form
  have H1 : Hid (x.formed = false → pushE qs.length x = 1 ∧ pushL (qs.map (·.x)) x = qs.map (·.x)) := fun h => by
    unfold pushE pushL; rw [if_pos h, if_neg (by simp [h])]; exact ⟨rfl, rfl⟩
  have H2 : Hid (x.formed = true → qs.length = 8 → pushE qs.length x = 7 ∧ pushL (qs.map (·.x)) x = qs.map (·.x)) := fun h h' => by
    unfold pushE pushL; rw [if_neg (by simp [h]), if_pos h', if_neg (by simp [h'])]; exact ⟨rfl, rfl⟩
  have H3 : Hid (x.formed = true → qs.length ≠ 8 → pushE qs.length x = 0 ∧ pushL (qs.map (·.x)) x = qs.map (·.x) ++ [x]) := fun h h' => by
    unfold pushE pushL; rw [if_neg (by simp [h]), if_neg h', if_pos ⟨h, by simpa using h'⟩]; exact ⟨rfl, rfl⟩
  generalize pushE qs.length x = E at H1 H2 H3
  generalize pushL (qs.map (·.x)) x = PL at H1 H2 H3
  clear hF hx
  go_enter Try.func12, Try.ntmps12
  go_wp2_with fail
  obtain ⟨W0, e0, k0, hz0, hb0⟩ := box1 w (.cells #[Sv x.fr, .int .u64 (x.ser : Int), .int .i64 x.kind, .slice a x.args.length c] 34)
  rw [e0]
  clear e0
  refine (formed14 x a c).mono ?_
  rintro e w1 ⟨rfl, k1⟩
  have hb1 := k1.keeps hb0 (by simp)
  have k01 := k0.trans k1 (by simp)
  have hF1 := HF.out.kept0 k01
  have hc1 := cell_of_one hF1.box
  cases hfm : x.formed with
  | false =>
    obtain ⟨rfl, rfl⟩ := H1.out hfm
    go_wp2_with fail
    go_ret
    exact ⟨rfl, _, qs, hF1, rfl, k01.mono (by simp)⟩
  | true =>
    have hfl := formed_le hfm
    have HFM := Hid.mk hfm
    clear hfm
    by_cases hn8 : qs.length = 8
    · obtain ⟨rfl, rfl⟩ := H2.out HFM.out hn8
      have g8 : ((8 : Int) ≤ (qs.length : Int)) := by omega
      clear hn8
      go_wp2_with fail
      go_ret
      exact ⟨rfl, _, qs, hF1, rfl, k01.mono (by simp)⟩
    · obtain ⟨rfl, rfl⟩ := H3.out HFM.out hn8
      have g8 : ((8 : Int) ≤ (qs.length : Int)) = False := eq_false (by omega)
      go_wp2_with fail
      have kd := k01.drew
      have hFd := HF.out.kept0 kd
      have hbd : w1.drew.heap[w.heap.size]? = some (.cells #[Sv x.fr, .int .u64 (x.ser : Int), .int .i64 x.kind, .slice a x.args.length c] 34 (0, 0)) := hb1
      obtain ⟨c0, c1, c2, c3⟩ := cells4 hbd
      have hcd := cell_of_one hFd.box
      have HC := Hid.mk (copy25 x a c (HX.out.kept kd (by simp)) (by omega))
      have HFD := Hid.mk hFd
      have HKD := Hid.mk kd
      clear hFd hbd hb1 hb0 hc1 k0 k1 k01 hz0 hF1 kd
      go_region_law (first | (refine step_append_run 28 (.tmp 18) (.tmp 21) (by rfl) (by rfl) _ _ (by rfl) (by rfl) hrun ?_) | (go_simp; go_at_call 23; refine HC.out.mono ?_; rintro e w5 ⟨a5, c5, rfl, hO5, k5, hf5⟩; obtain ⟨a6, c6, w6, hrun, hO6, k6⟩ := (HFD.out.own.kept0 k5).app ⟨x, a5, c5⟩ hO5 (fun g hg => by have := hf5 g hg; have := HKD.out.size; omega) (by have := k5.size; have := HKD.out.size; omega) (by omega); have hF5 := HFD.out.kept0 k5; have h6 := k6.keeps hF5.box (by rw [Option.mem_toList]; exact ownsR_ne hF5.own.own hF5.box (by decide)); have q3 := cell_of_one h6; have qf := free_of_one h6; have q5 := cell_of_one hF5.box; have q6 := ((Kept.refl [] w5).alloc (.cells #[Sv x.fr, .int .u64 (x.ser : Int), .int .i64 x.kind, .slice a5 x.args.length c5] 34)).cell_eq q5; clear hF5))
      all_goals
        have hR : IsF w0 (w6.setCell ⟨p, 0, none⟩ (.slice a6 (qs.length + 1) c6)) p (.slice a6 (qs.length + 1) c6) (qs ++ [⟨x, a5, c5⟩]) ∧ (qs ++ [(⟨x, a5, c5⟩ : Lq)]).map (·.x) = qs.map (·.x) ++ [x] ∧ Kept (foot p (.slice av qs.length cv)) w (w6.setCell ⟨p, 0, none⟩ (.slice a6 (qs.length + 1) c6)) := by
          refine ⟨⟨one_setCell h6, hO6.kept ((Kept.refl [p] w6).setCell (p := ⟨p, 0, none⟩) (.inl (by simp)) _) (fun y hy => ?_), HF.out.fr⟩, by simp, ?_⟩
          · simp at hy
            subst hy
            exact ⟨ownsR_ne hO6.own h6 (by decide), fun q hq => ownsJ_ne (hO6.args q hq) h6 (by decide)⟩
          · refine ((((HKD.out.trans k5 (by simp)).mono (by simp)).trans k6 (fun y hy => .inl (mem_foot.2 (.inr (by rw [Option.mem_toList] at hy; exact hy))))).setCell (p := ⟨p, 0, none⟩) (.inl (mem_foot.2 (.inl rfl))) _)
        have HR := Hid.mk hR
        clear hR hO6 k6 h6 hO5 k5 hf5 q3 qf q5 q6 hrun
        go_wp2_with fail
        go_ret
        exact ⟨rfl, _, _, HR.out⟩
set_option maxRecDepth 100000 in
set_option maxHeartbeats 1000000 in
theorem rpop14_none (hF : IsF w0 w p v []) : Calls Try.prog 14 #[.pointer (some ⟨p, 0, none⟩)] w fun e w' => e = .returned (.tuple #[Lv ⟨[], 0, 0, []⟩ none 0, .bool false]) ∧ Kept [] w w' := by
  obtain ⟨av, cv, rfl, hv1, hv2⟩ := hF.own.row.form
  have hc := cell_of_one hF.box
  have hlt := hF.lt
  clear hF
  go_enter Try.func14, Try.ntmps14
  go_wp2_with fail
  refine bodyPost_ret (results_cell_row2 (p := 2) (u := 3) (ty := 34) rfl _ _ w.heap.size 34 _ (0, 0) _ rfl (heap_alloc_new w _) Try.underlying34 rfl (by kernel_rfl) _ rfl) rfl ?_
  exact ⟨rfl, (Kept.refl [] w).alloc _⟩
theorem cutQ {b o cv : Nat} {q : Lq} {t : List Lq} (h : RowQ w (.slice (some ⟨b, o, none⟩) (t.length + 1) cv) (q :: t)) : RowQ w (.slice (if cv = 1 then some ⟨b, o, none⟩ else some ⟨b, o + 4, none⟩) t.length (cv - 1)) t := by
  obtain ⟨-, hb1, hb2⟩ := h.bound
  have := ReadsR.cut (k := 4) (i := 1) (j := t.length + 1) (m := cv) (by rw [CQ_length]; rfl) h (by omega) (Nat.le_refl _) hb1 (Nat.le_refl _)
  have e : ((CQ (q :: t)).take (t.length + 1)).drop 1 = CQ t := by
    rw [List.take_of_length_le (by rw [CQ_length]; simp)]
    rfl
  rw [e] at this
  unfold cutA at this
  rw [Option.map_some, add_at] at this
  exact this
set_option maxRecDepth 100000 in
set_option maxHeartbeats 1000000 in
theorem rpop14_some {q : Lq} {t : List Lq} (hF : IsF w0 w p v (q :: t)) (h8 : t.length ≤ 8) (hs : w0.heap.size ≤ w.heap.size) : Calls Try.prog 14 #[.pointer (some ⟨p, 0, none⟩)] w fun e w' => e = .returned (.tuple #[Lv q.x q.ad q.cap, .bool true]) ∧ ∃ v', IsF w0 w' p v' t ∧ OwnsJ w' q.sl q.x.args ∧ Kept [p] w w' := by
  obtain ⟨av, cv, rfl, hv1, hv2⟩ := hF.own.row.form
  have hc := cell_of_one hF.box
  have hf := free_of_one hF.box
  obtain ⟨b, o, rfl, d0, d1, d2, d3⟩ := hF.own.row.at (j := 0) (q := q) rfl
  have hlt := hF.lt
  have hlb : b < w.heap.size := World.block_lt_of_cell? w _ d0
  have HF := Hid.mk hF
  clear hF
  rw [Nat.zero_mul, Nat.add_zero] at *
  rw [List.length_cons] at *
  obtain ⟨W0, e0, k0, hz0, hb0, hb1⟩ := box2 w (.cells #[.string { data := #[] }, .int .u64 0, .int .i64 0, .slice none 0 0] 34) (.cells #[Sv q.x.fr, .int .u64 (q.x.ser : Int), .int .i64 q.x.kind, q.sl] 34)
  have hO : OwnsR 34 4 (W0.alloc (.cells #[] 34)) (.slice (some ⟨w.heap.size + 2, 0, none⟩) 0 0) [] := by
    have := World.ownsRow_made (base := 0) (e := 34) (size := 4) W0 #[] 0 (Nat.zero_le _) (by simp) (by simp)
    rw [hz0] at this
    exact this
  have k1 := k0.alloc (.cells #[] 34)
  have hb2 : (W0.alloc (.cells #[] 34)).heap[w.heap.size]? = _ := (Below.heap_alloc _ _ _ (by omega)).trans hb0
  have hb3 : (W0.alloc (.cells #[] 34)).heap[w.heap.size + 1]? = _ := (Below.heap_alloc _ _ _ (by omega)).trans hb1
  have HZ : Hid (w.heap.size + 3 = (W0.alloc (.cells #[] 34)).heap.size) := Hid.mk (by simp [hz0])
  have hcA := k1.cell_eq hc
  rw [← e0] at hO k1 hb2 hb3 HZ hcA
  have hcut := cutQ (HF.out.own.row.kept k1 (by simp))
  obtain ⟨a2, c2, w2, hrun, ho, hg, hN⟩ := run_appendR rt28 _ 28 _ [] hO _ (CQ t) (CQ_wide t) hcut (by rw [CQ_length]; simp; omega)
  rw [List.nil_append, List.length_nil, Nat.zero_add, CQ_length] at *
  have k2 : Kept [] w w2 := k1.grown hg (by simp [Value.ownBlock])
  have hb4 : w2.heap[w.heap.size]? = _ := (hg.block w.heap.size (by have := HZ.out; omega) (by simp [Value.ownBlock])).trans hb2
  have hb5 : w2.heap[w.heap.size + 1]? = _ := (hg.block (w.heap.size + 1) (by have := HZ.out; omega) (by simp [Value.ownBlock])).trans hb3
  have hF2 := HF.out.kept0 k2
  have hcp := cell_of_one hF2.box
  have hfp := free_of_one hF2.box
  obtain ⟨x0, x1, x2, x3⟩ := cells4 hb4
  obtain ⟨f0, f1, f2, f3⟩ := free4 hb4
  obtain ⟨y0, y1, y2, y3⟩ := cells4 hb5
  have hfr : Hid (Fresh w0 (.slice a2 t.length c2)) := fun g hg' => by
    rcases hN g hg' with h | h
    · simp [Value.ownBlock] at h; omega
    · have := HZ.out; omega
  have H2 : Hid (IsF w0 (w2.setCell ⟨p, 0, none⟩ (.slice a2 t.length c2)) p (.slice a2 t.length c2) t ∧ OwnsJ (w2.setCell ⟨p, 0, none⟩ (.slice a2 t.length c2)) q.sl q.x.args ∧ Kept [p] w (w2.setCell ⟨p, 0, none⟩ (.slice a2 t.length c2)) ∧ (w2.setCell ⟨p, 0, none⟩ (.slice a2 t.length c2)).heap[w.heap.size]? = some (.cells #[.string { data := #[] }, .int .u64 0, .int .i64 0, .slice none 0 0] 34 (0, 0))) := by
    have kp := (Kept.refl [p] w2).setCell (p := ⟨p, 0, none⟩) (.inl (by simp)) (.slice a2 t.length c2)
    have hap : ∀ y ∈ q :: t, OwnsJ (w2.setCell ⟨p, 0, none⟩ (.slice a2 t.length c2)) y.sl y.x.args := fun y hy => (hF2.own.args y hy).kept kp (fun g hg' hm => by simp at hm; subst hm; exact ownsJ_ne (hF2.own.args y hy) hF2.box (by decide) hg')
    refine ⟨⟨one_setCell hF2.box, ⟨?_, fun y hy => hap y (by simp [hy]), hfr.out, fun y hy => HF.out.own.fra y (by simp [hy])⟩, HF.out.fr⟩, hap q (by simp), (k2.mono (by simp)).trans kp (by simp), kp.keeps hb4 (by simp; omega)⟩
    exact OwnsR.kept ho kp (fun g hg' hm => by simp at hm; subst hm; exact ownsR_ne ho hF2.box (by decide) hg')
  have HT : Hid (∃ W8, ((((w2.setCell ⟨p, 0, none⟩ (.slice a2 t.length c2)).setCell ⟨w.heap.size, 0, none⟩ (Sv q.x.fr)).setCell ⟨w.heap.size, 1, none⟩ (.int .u64 (q.x.ser : Int))).setCell ⟨w.heap.size, 2, none⟩ (.int .i64 q.x.kind)).setCell ⟨w.heap.size, 3, none⟩ q.sl = W8 ∧ W8.heap[w.heap.size]? = some (.cells #[Sv q.x.fr, .int .u64 (q.x.ser : Int), .int .i64 q.x.kind, q.sl] 34 (0, 0)) ∧ IsF w0 W8 p (.slice a2 t.length c2) t ∧ OwnsJ W8 q.sl q.x.args ∧ Kept [p] w W8) := by
    obtain ⟨i1, i2, i3, i4⟩ := H2.out
    obtain ⟨W8, e8, k8, h8, -⟩ := put4 i4 (Sv q.x.fr) (.int .u64 (q.x.ser : Int)) (.int .i64 q.x.kind) q.sl
    refine ⟨W8, e8, h8, ⟨k8.keeps i1.box (by simp; omega), i1.own.kept k8 (fun y hy => ?_), i1.fr⟩, i2.kept k8 (fun g hg' hm => ?_), i3.trans k8 (by simp)⟩
    · simp at hy
      subst hy
      refine ⟨fun hh => ?_, fun y hy => ownsJ_ne (i1.own.args y hy) i4 (by decide)⟩
      rcases hN _ hh with h | h
      · simp [Value.ownBlock] at h
      · have := HZ.out; omega
    · simp at hm; subst hm; exact ownsJ_ne i2 i4 (by decide) hg'
  have hpn : p ≠ w.heap.size := by omega
  have hpn1 : p ≠ w.heap.size + 1 := by omega
  clear hF2 hb4 hb5 hb2 hb3 hO hg hN k1 k0 hb0 hb1 e0 HZ ho hz0 k2
  by_cases hcv : cv = 1
  · subst hcv
    rw [if_pos rfl] at hrun
    have ht0 : t = [] := List.eq_nil_of_length_eq_zero (by omega)
    subst ht0
    go_enter Try.func14, Try.ntmps14
    go_wp2_with (at_builtin; refine wpList_append_run 28 28 _ _ rfl (by rfl) _ _ rfl rfl _ _ hrun ?_)
    obtain ⟨W8, e8, h9, j1, j2, j3⟩ := HT.out
    refine Eq.mpr (congrArg (bodyPost Try.prog Try.f14 _ _ _) e8) ?_
    refine bodyPost_ret (results_cell_row2 (p := 2) (u := 3) (ty := 34) rfl _ _ w.heap.size 34 _ (0, 0) _ rfl h9 Try.underlying34 rfl (by kernel_rfl) _ rfl) rfl ?_
    first | exact ⟨rfl, _, j1, j2, j3⟩ | exact ⟨rfl, ⟨_, j1⟩, j2, j3⟩
  · rw [if_neg hcv] at hrun
    go_enter Try.func14, Try.ntmps14
    go_wp2_with (at_builtin; refine wpList_append_run 28 28 _ _ rfl (by rfl) _ _ rfl rfl _ _ hrun ?_)
    obtain ⟨W8, e8, h9, j1, j2, j3⟩ := HT.out
    refine Eq.mpr (congrArg (bodyPost Try.prog Try.f14 _ _ _) e8) ?_
    refine bodyPost_ret (results_cell_row2 (p := 2) (u := 3) (ty := 34) rfl _ _ w.heap.size 34 _ (0, 0) _ rfl h9 Try.underlying34 rfl (by kernel_rfl) _ rfl) rfl ?_
    first | exact ⟨rfl, _, j1, j2, j3⟩ | exact ⟨rfl, ⟨_, j1⟩, j2, j3⟩
/-- What Box answers. -/
def RBoxAt (w : World) (l : List UInt8) (e : Ending) (w' : World) : Prop :=
  (decB l = none ∧ e = .returned (.tuple #[.pointer none, .int .i64 2]) ∧ Kept [] w w') ∨
  (∃ p v qs, decB l = some (qs.map (·.x)) ∧ e = .returned (.tuple #[.pointer (some ⟨p, 0, none⟩), .int .i64 0]) ∧ IsF w w' p v qs ∧ Kept [] w w')
theorem rbox_none {w w' : World} {l : List UInt8} (h : decB l = none) (k : Kept [] w w') : RBoxAt w l (.returned (.tuple #[.pointer none, .int .i64 2])) w' := .inl ⟨h, rfl, k⟩
theorem rbox_some {w w' : World} {l : List UInt8} {p : Nat} {v : Value} {qs : List Lq} (h : decB l = some (qs.map (·.x))) (hB : IsF w w' p v qs) (k : Kept [] w w') : RBoxAt w l (.returned (.tuple #[.pointer (some ⟨p, 0, none⟩), .int .i64 0])) w' := .inr ⟨p, v, qs, h, rfl, hB, k⟩
set_option maxRecDepth 100000 in
set_option maxHeartbeats 1000000 in
theorem rbox20 (v : Value) (l : List UInt8) (hr : Reads w v l) (hin : Inside w v) (hl : l.length ≤ 3000000) : Calls Try.prog 20 #[v] w fun e w' => RBoxAt w l e w' := by
  have H0 : Hid (∀ W, decB l = none → Kept [] w W → RBoxAt w l (.returned (.tuple #[.pointer none, .int .i64 2])) W) := fun W => rbox_none
  have H1 : Hid (∀ W p v qs, decB l = some (qs.map (·.x)) → IsF w W p v qs → Kept [] w W → RBoxAt w l (.returned (.tuple #[.pointer (some ⟨p, 0, none⟩), .int .i64 0])) W) := fun W p v qs => rbox_some
  generalize RBoxAt w l = R at H0 H1
  go_enter Try.func20, Try.ntmps20
  go_wp2_with fail
  refine (unpack23 v l hr hin hl).mono ?_
  rintro e w1 ⟨v1, qs, rfl, hq1, hO1, k1⟩
  cases hd : decP l with
  | none =>
    have hN : Hid (decB l = none) := by show _ = _; unfold decB; rw [hd]; rfl
    clear hd hq1
    simp only [Option.isSome_none, Bool.false_eq_true, if_false]
    go_wp2_with fail
    exact H0.out _ hN.out k1
  | some m =>
    rw [hd] at hq1
    have hqm : qs.map (·.x) = m := hq1
    have HD : Hid (decB l = if qs.length ≤ 8 then some (qs.map (·.x)) else none) := by
      show _ = _
      unfold decB
      rw [hd, hqm]
      have : qs.length = m.length := by rw [← hqm, List.length_map]
      rw [this]
      rfl
    obtain ⟨a1, c1, rfl, hc1, hc2⟩ := hO1.row.form
    clear hd hq1 hqm
    simp only [Option.isSome_some, if_true]
    by_cases h8 : qs.length ≤ 8
    · have h8I : ((8 : Int) < (qs.length : Int)) = False := eq_false (by omega)
      have hD := HD.out
      rw [if_pos h8] at hD
      have k2 := (Kept.refl [] w1).alloc (.cells #[.slice a1 qs.length c1] 30)
      have HH : Hid (R (.returned (.tuple #[.pointer (some ⟨w1.heap.size, 0, none⟩), .int .i64 0])) (w1.alloc (.cells #[.slice a1 qs.length c1] 30))) := H1.out _ _ _ qs hD ⟨heap_alloc_new w1 _, hO1.kept0 k2, k1.size⟩ (k1.trans k2 (by simp))
      clear HD hD hO1 k2
      go_wp2_with fail
      exact HH.out
    · have h8I : (8 : Int) < (qs.length : Int) := by omega
      have hD := HD.out
      rw [if_neg h8] at hD
      have HD' := Hid.mk hD
      clear HD hD hO1
      go_wp2_with fail
      exact H0.out _ HD'.out k1
end
end Go.Proofs.Ytpcliempoagpoaa
