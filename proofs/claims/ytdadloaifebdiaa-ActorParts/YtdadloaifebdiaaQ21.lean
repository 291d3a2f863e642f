import Derived.Test.YtdadloaifebdiaaQ13
import Derived.Test.YtdadloaifebdiaaQ20
/-
  Decode of an inbox.
-/
namespace Go.Proofs.Ytdadloaifebdiaa
set_option maxRecDepth 100000
open Go.RowKit
set_option linter.unusedVariables false
section
variable {P : Program}
end
/-- The letters of an inbox that bytes are. -/
def decB (l : List UInt8) : Option (List Lt) := (decP l).bind fun m => if m.length ≤ 8 then some m else none
/-- What Decode answers. -/
def BoxAt (w : World) (l : List UInt8) (e : Ending) (w' : World) : Prop :=
  (decB l = none ∧ e = .returned (.tuple #[.pointer none, .int .i64 2]) ∧ Kept [] w w') ∨
  (∃ p qs, decB l = some (qs.map (·.x)) ∧ e = .returned (.tuple #[.pointer (some ⟨p, 0, none⟩), .int .i64 0]) ∧ IsB w' p qs ∧ w.heap.size ≤ p ∧ (∀ q ∈ qs, Fresh w q.sl) ∧ Kept [] w w')
theorem box_none {w w' : World} {l : List UInt8} (h : decB l = none) (k : Kept [] w w') : BoxAt w l (.returned (.tuple #[.pointer none, .int .i64 2])) w' := .inl ⟨h, rfl, k⟩
theorem box_some {w w' : World} {l : List UInt8} {p : Nat} {qs : List Lq} (h : decB l = some (qs.map (·.x))) (hB : IsB w' p qs) (hp : w.heap.size ≤ p) (hf : ∀ q ∈ qs, Fresh w q.sl) (k : Kept [] w w') : BoxAt w l (.returned (.tuple #[.pointer (some ⟨p, 0, none⟩), .int .i64 0])) w' := .inr ⟨p, qs, h, rfl, hB, hp, hf, k⟩
section
variable {w : World}
/-- Letters are copied into a new inbox. -/
theorem fillB {w0 w1 : World} {a1 : Option Addr} {c1 : Nat} {qs : List Lq} (hO : OwnL w0 w1 (.slice a1 qs.length c1) qs) (h8 : qs.length ≤ 8) :
    ∃ r W', (Builtin.copy_ #[22, 22] 3 #[.slice (some ⟨w1.heap.size, 0, none⟩) 8 8, .slice a1 qs.length c1]).run Try.prog (w1.alloc (.cells ((cellsB []).set 32 (.int .i64 (qs.length : Int))).toArray 96)) = .ok r W' ∧ W'.heap[w1.heap.size]? = some (.cells (cellsB qs).toArray 96 (0, 0)) ∧ Kept [] w1 W' := by
  have hnew : (w1.alloc (.cells ((cellsB []).set 32 (.int .i64 (qs.length : Int))).toArray 96)).heap[w1.heap.size]? = some (.cells ((cellsB []).set 32 (.int .i64 (qs.length : Int))).toArray 96 (0, 0)) := heap_alloc_new w1 _
  have k0 := (Kept.refl [] w1).alloc (.cells ((cellsB []).set 32 (.int .i64 (qs.length : Int))).toArray 96)
  have hrow := hO.row.kept k0 (by simp)
  have hfill := cellsB_fill qs h8
  have hlen : ((cellsB []).set 32 (.int .i64 (qs.length : Int))).length = 33 := by rw [List.length_set, cellsB_length (by simp)]
  have hcl : (CQ qs).flatten.length = qs.length * 4 := by rw [(CQ_wide qs).flat_length, CQ_length]
  generalize hA : w1.alloc (.cells ((cellsB []).set 32 (.int .i64 (qs.length : Int))).toArray 96) = A at hnew k0 hrow ⊢
  clear hA
  cases qs with
  | nil =>
    exact ⟨_, _, run_copy_noneK (P := Try.prog) A 22 22 3 50 4 _ a1 8 8 0 c1 Try.underlying22 (by kernel_rfl) rfl, hnew, k0⟩
  | cons q t =>
    obtain ⟨b, o, rfl, -⟩ := hrow.at (j := 0) (q := q) rfl
    have hsrc : ∀ j v, (CQ (q :: t)).flatten[j]? = some v → A.cell? ((⟨b, o, none⟩ : Addr).add j) = some v := fun j v hv => by
      obtain ⟨m, r, i, hm, hi, rfl⟩ := (CQ_wide (q :: t)).inv j v hv
      obtain ⟨b', o', c', hbo, hcell⟩ := ReadsR.at hrow m r hm
      injection hbo with hbo _ _
      injection hbo with hbo
      injection hbo with hb ho _
      subst hb ho
      have := hcell i v hi
      rw [add_at, ← Nat.add_assoc]
      exact this
    have hrun := run_copy_rowK (P := Try.prog) A 22 22 3 50 4 w1.heap.size 0 8 8 ⟨b, o, none⟩ (q :: t).length c1 _ 96 (CQ (q :: t)).flatten Try.underlying22 (by kernel_rfl) hnew (by rw [hcl]; congr 1; exact (Nat.min_eq_left h8).symm) hsrc (by rw [hcl, List.size_toArray, hlen]; omega) (CQ_wide (q :: t)).one
    refine ⟨_, _, hrun, ?_, k0.setRow (.inr (Nat.le_refl _)) _⟩
    have := setRow_heap A w1.heap.size _ (((cellsB []).set 32 (.int .i64 ((q :: t).length : Int))).toArray.toList.take 0 ++ (CQ (q :: t)).flatten ++ ((cellsB []).set 32 (.int .i64 ((q :: t).length : Int))).toArray.toList.drop (0 + (CQ (q :: t)).flatten.length)).toArray 96 (0, 0) hnew
    rw [this]
    congr 3
    rw [← hfill]
    simp
end
end Go.Proofs.Ytdadloaifebdiaa
/-
  The document's inbox: Push, Pop, Box.
-/
namespace Go.Proofs.Ytdadloaifebdiaa
open Go.RowKit
set_option linter.unusedVariables false
/-- The document's inbox at block p: its row is v, its letters are qs; all of it is new since w0. -/
structure IsF_I (w0 w : World) (p : Nat) (v : Value) (qs : List Lq) : Prop where
  box : w.heap[p]? = some (.cells #[v] 80 (0, 0))
  own : OwnL w0 w v qs
  fr : w0.heap.size ≤ p
section
variable {w0 w w' : World} {p pf : Nat} {v : Value} {qs ms : List Lq}
theorem IsF_I.lt (h : IsF_I w0 w p v qs) : p < w.heap.size := lt_of_block h.box
/-- What turns the document's inbox leaves the program's. -/
theorem IsB.besides (hB : IsB w p qs) (hF : IsF_I w0 w pf v ms) (k : Kept (foot pf v) w w') : IsB w' p qs := by
  refine hB.kept k (fun hm => ?_) (fun q hq g hg hm => ?_)
  · rcases mem_foot.1 hm with h | h
    · exact box_ne hB.box hF.box (by decide) h
    · exact ownsR_ne hF.own.own hB.box (by decide) h
  · rcases mem_foot.1 hm with h | h
    · subst h; exact ownsJ_ne (hB.args q hq) hF.box (by decide) hg
    · exact own_apart (hB.args q hq) hF.own.own (by decide) hg h
/-- What turns the program's inbox leaves the document's. -/
theorem IsF_I.besides (hF : IsF_I w0 w pf v ms) (hB : IsB w p qs) (k : Kept [p] w w') : IsF_I w0 w' pf v ms := by
  refine ⟨k.keeps hF.box (by simp; exact box_ne hF.box hB.box (by decide)), hF.own.kept k (fun y hy => ?_), hF.fr⟩
  simp at hy
  subst hy
  exact ⟨ownsR_ne hF.own.own hB.box (by decide), fun q hq => ownsJ_ne (hF.own.args q hq) hB.box (by decide)⟩
theorem IsF_I.kept0 (hF : IsF_I w0 w pf v ms) (k : Kept [] w w') : IsF_I w0 w' pf v ms := ⟨k.keeps hF.box (by simp), hF.own.kept0 k, hF.fr⟩
set_option maxRecDepth 100000 in
set_option maxHeartbeats 1000000 in
theorem rpush12 (x : Lt) (a : Option Addr) (c : Nat) (hF : IsF_I w0 w p v qs) (h8 : qs.length ≤ 8) (hx : ReadsJ w (.slice a x.args.length c) x.args) (hs : w0.heap.size ≤ w.heap.size) :
    Calls Try.prog 18 #[.pointer (some ⟨p, 0, none⟩), Lv x a c] w fun e w' => e = .returned (.int .i64 (pushE qs.length x)) ∧ ∃ v' qs', IsF_I w0 w' p v' qs' ∧ qs'.map (·.x) = pushL (qs.map (·.x)) x ∧ Kept (foot p v) w w' := by
  have HF := Hid.mk hF
  have HX := Hid.mk hx
  obtain ⟨av, cv, rfl, hv1, hv2⟩ := hF.own.row.form
  have H1 : Hid (x.formed = false → pushE qs.length x = 1 ∧ pushL (qs.map (·.x)) x = qs.map (·.x)) := fun h => by
    unfold pushE pushL; rw [if_pos h, if_neg (by simp [h])]; exact ⟨rfl, rfl⟩
  have H2 : Hid (x.formed = true → qs.length = 8 → pushE qs.length x = 7 ∧ pushL (qs.map (·.x)) x = qs.map (·.x)) := fun h h' => by
    unfold pushE pushL; rw [if_neg (by simp [h]), if_pos h', if_neg (by simp [h'])]; exact ⟨rfl, rfl⟩
  have H3 : Hid (x.formed = true → qs.length ≠ 8 → pushE qs.length x = 0 ∧ pushL (qs.map (·.x)) x = qs.map (·.x) ++ [x]) := fun h h' => by
    unfold pushE pushL; rw [if_neg (by simp [h]), if_neg h', if_pos ⟨h, by simpa using h'⟩]; exact ⟨rfl, rfl⟩
  generalize pushE qs.length x = E at H1 H2 H3
  generalize pushL (qs.map (·.x)) x = PL at H1 H2 H3
  clear hF hx
  go_enter Try.func18, Try.ntmps18
  go_wp2_with fail
  obtain ⟨W0, e0, k0, hz0, hb0⟩ := box1 w (.cells #[Sv x.fr, .int .u64 (x.ser : Int), .int .i64 x.kind, .slice a x.args.length c] 50)
  rw [e0]
  clear e0
  refine (formed14 x a c).mono ?_
  rintro e w1 ⟨rfl, k1⟩
  have hb1 := k1.keeps hb0 (by simp)
  have k01 := k0.trans k1 (by simp)
  have hF1 := HF.out.kept0 k01
  have hc1 := cell_of_one hF1.box
  cases hfm : x.formed with
  | false =>
    obtain ⟨rfl, rfl⟩ := H1.out hfm
    go_wp2_with fail
    go_ret
    exact ⟨rfl, _, qs, hF1, rfl, k01.mono (by simp)⟩
  | true =>
    have hfl := formed_le hfm
    have HFM := Hid.mk hfm
    clear hfm
    by_cases hn8 : qs.length = 8
    · obtain ⟨rfl, rfl⟩ := H2.out HFM.out hn8
      have g8 : ((8 : Int) ≤ (qs.length : Int)) := by omega
      clear hn8
      go_wp2_with fail
      go_ret
      exact ⟨rfl, _, qs, hF1, rfl, k01.mono (by simp)⟩
    · obtain ⟨rfl, rfl⟩ := H3.out HFM.out hn8
      have g8 : ((8 : Int) ≤ (qs.length : Int)) = False := eq_false (by omega)
      go_wp2_with fail
      have kd := k01.drew
      have hFd := HF.out.kept0 kd
      have hbd : w1.drew.heap[w.heap.size]? = some (.cells #[Sv x.fr, .int .u64 (x.ser : Int), .int .i64 x.kind, .slice a x.args.length c] 50 (0, 0)) := hb1
      obtain ⟨c0, c1, c2, c3⟩ := cells4 hbd
      have hcd := cell_of_one hFd.box
      have HC := Hid.mk (copy25 x a c (HX.out.kept kd (by simp)) (by omega))
      have HFD := Hid.mk hFd
      have HKD := Hid.mk kd
      clear hFd hbd hb1 hb0 hc1 k0 k1 k01 hz0 hF1 kd
      go_region_law (first | (refine step_append_run 22 (.tmp 18) (.tmp 21) (by rfl) (by rfl) _ _ (by rfl) (by rfl) hrun ?_) | (go_simp; go_at_call 50; refine HC.out.mono ?_; rintro e w5 ⟨a5, c5, rfl, hO5, k5, hf5⟩; obtain ⟨a6, c6, w6, hrun, hO6, k6⟩ := (HFD.out.own.kept0 k5).app ⟨x, a5, c5⟩ hO5 (fun g hg => by have := hf5 g hg; have := HKD.out.size; omega) (by have := k5.size; have := HKD.out.size; omega) (by omega); have hF5 := HFD.out.kept0 k5; have h6 := k6.keeps hF5.box (by rw [Option.mem_toList]; exact ownsR_ne hF5.own.own hF5.box (by decide)); have q3 := cell_of_one h6; have qf := free_of_one h6; have q5 := cell_of_one hF5.box; have q6 := ((Kept.refl [] w5).alloc (.cells #[Sv x.fr, .int .u64 (x.ser : Int), .int .i64 x.kind, .slice a5 x.args.length c5] 50)).cell_eq q5; clear hF5))
      all_goals
        have hR : IsF_I w0 (w6.setCell ⟨p, 0, none⟩ (.slice a6 (qs.length + 1) c6)) p (.slice a6 (qs.length + 1) c6) (qs ++ [⟨x, a5, c5⟩]) ∧ (qs ++ [(⟨x, a5, c5⟩ : Lq)]).map (·.x) = qs.map (·.x) ++ [x] ∧ Kept (foot p (.slice av qs.length cv)) w (w6.setCell ⟨p, 0, none⟩ (.slice a6 (qs.length + 1) c6)) := by
          refine ⟨⟨one_setCell h6, hO6.kept ((Kept.refl [p] w6).setCell (p := ⟨p, 0, none⟩) (.inl (by simp)) _) (fun y hy => ?_), HF.out.fr⟩, by simp, ?_⟩
          · simp at hy
            subst hy
            exact ⟨ownsR_ne hO6.own h6 (by decide), fun q hq => ownsJ_ne (hO6.args q hq) h6 (by decide)⟩
          · refine ((((HKD.out.trans k5 (by simp)).mono (by simp)).trans k6 (fun y hy => .inl (mem_foot.2 (.inr (by rw [Option.mem_toList] at hy; exact hy))))).setCell (p := ⟨p, 0, none⟩) (.inl (mem_foot.2 (.inl rfl))) _)
        have HR := Hid.mk hR
        clear hR hO6 k6 h6 hO5 k5 hf5 q3 qf q5 q6 hrun
        go_wp2_with fail
        go_ret
        exact ⟨rfl, _, _, HR.out⟩
theorem cutQ {b o cv : Nat} {q : Lq} {t : List Lq} (h : RowQ w (.slice (some ⟨b, o, none⟩) (t.length + 1) cv) (q :: t)) : RowQ w (.slice (if cv = 1 then some ⟨b, o, none⟩ else some ⟨b, o + 4, none⟩) t.length (cv - 1)) t := by
  obtain ⟨-, hb1, hb2⟩ := h.bound
  have := ReadsR.cut (k := 4) (i := 1) (j := t.length + 1) (m := cv) (by rw [CQ_length]; rfl) h (by omega) (Nat.le_refl _) hb1 (Nat.le_refl _)
  have e : ((CQ (q :: t)).take (t.length + 1)).drop 1 = CQ t := by
    rw [List.take_of_length_le (by rw [CQ_length]; simp)]
    rfl
  rw [e] at this
  unfold cutA at this
  rw [Option.map_some, add_at] at this
  exact this
/-- What Box answers. -/
def RBoxAt (w : World) (l : List UInt8) (e : Ending) (w' : World) : Prop :=
  (decB l = none ∧ e = .returned (.tuple #[.pointer none, .int .i64 2]) ∧ Kept [] w w') ∨
  (∃ p v qs, decB l = some (qs.map (·.x)) ∧ e = .returned (.tuple #[.pointer (some ⟨p, 0, none⟩), .int .i64 0]) ∧ IsF_I w w' p v qs ∧ Kept [] w w')
theorem rbox_none {w w' : World} {l : List UInt8} (h : decB l = none) (k : Kept [] w w') : RBoxAt w l (.returned (.tuple #[.pointer none, .int .i64 2])) w' := .inl ⟨h, rfl, k⟩
theorem rbox_some {w w' : World} {l : List UInt8} {p : Nat} {v : Value} {qs : List Lq} (h : decB l = some (qs.map (·.x))) (hB : IsF_I w w' p v qs) (k : Kept [] w w') : RBoxAt w l (.returned (.tuple #[.pointer (some ⟨p, 0, none⟩), .int .i64 0])) w' := .inr ⟨p, v, qs, h, rfl, hB, k⟩
end
end Go.Proofs.Ytdadloaifebdiaa
