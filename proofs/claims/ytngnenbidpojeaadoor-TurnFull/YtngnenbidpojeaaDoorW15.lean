import Derived.Laws.CopyRow
import Derived.Test.YtngnenbidpojeaaDoorW05
import Derived.Test.YtngnenbidpojeaaDoorW08
import Derived.Test.YtngnenbidpojeaaDoorW09
import Derived.Test.YtngnenbidpojeaaDoorW10
import Derived.Test.YtngnenbidpojeaaDoorW13
import Derived.Test.YtngnenbidpojeaaDoorW14
/-
  Send of an outbox.
-/
namespace Go.Proofs.YtngnenbidpojeaaDoor
set_option maxRecDepth 100000
open Go.RowKit
set_option linter.unusedVariables false
section
variable {w : World} {p : Nat} {own : List UInt8} {K : List La} {qs : List Yq}
/-- A Send that there can't be. -/
theorem send20_arg (to : List UInt8) (kind : Int) (a : Option Addr) (n c : Nat) (pp : Option Addr) (hl : to.length ≤ 281474976710656) (own : Bool) (hO : Calls Tryd.prog 26 #[.pointer pp] w fun e w' => e = .returned (.bool own) ∧ w = w') (hn : n ≤ 1000000) (h : own = false ∨ isKey to = false ∨ 4 < n) :
    Calls Tryd.prog 11 #[.pointer pp, Sv to, .int .i64 kind, .slice a n c] w fun e w' => e = .returned (.tuple #[Uv 0, .int .i64 1]) ∧ w = w' := by
  have HK := Hid.mk (isKey26 (w := w) to hl)
  have HO := Hid.mk hO
  clear hO
  cases own with
  | false =>
    go_enter Tryd.func11, Tryd.ntmps11
    go_wp2_with fail
    refine HO.out.mono ?_
    rintro e w1 ⟨rfl, rfl⟩
    go_wp2_with fail
    go_ret2
    exact ⟨rfl, rfl⟩
  | true =>
    cases hk : isKey to with
    | false =>
      rw [hk] at HK
      clear h hk
      go_enter Tryd.func11, Tryd.ntmps11
      go_wp2_with fail
      refine HO.out.mono ?_
      rintro e w1 ⟨rfl, rfl⟩
      go_wp2_with fail
      refine HK.out.mono ?_
      rintro e w1 ⟨rfl, rfl⟩
      go_wp2_with fail
      go_ret2
      exact ⟨rfl, rfl⟩
    | true =>
      rw [hk] at HK h
      have g4 : (4 : Int) < (n : Int) := by rcases h with h | h | h; cases h; cases h; omega
      clear h hk
      go_enter Tryd.func11, Tryd.ntmps11
      go_wp2_with fail
      refine HO.out.mono ?_
      rintro e w1 ⟨rfl, rfl⟩
      go_wp2_with fail
      refine HK.out.mono ?_
      rintro e w1 ⟨rfl, rfl⟩
      go_wp2_with fail
      go_ret2
      exact ⟨rfl, rfl⟩
set_option maxHeartbeats 1000000 in
/-- A Send that finds no room, or no serial. -/
theorem send20_full (hB : IsO w p own K qs) (hup : Rise K) (hne : own ≠ []) (to : List UInt8) (kind : Int) (a : Option Addr) (n c : Nat) (hk : isKey to = true) (hn : n ≤ 4) (h : qs.length = 32 ∨ (hasK K to = false ∧ K.length = 64)) :
    Calls Tryd.prog 11 #[.pointer (some ⟨p, 0, none⟩), Sv to, .int .i64 kind, .slice a n c] w fun e w' => e = .returned (.tuple #[Uv 0, .int .i64 6]) ∧ Kept [] w w' := by
  have hkl := (isKey_iff to).1 hk
  have HK := Hid.mk (isKey26 (w := w) to (by omega))
  have HO := Hid.mk (owned34 hB)
  have ho : (!own.isEmpty) = true := by cases own with | nil => exact absurd rfl hne | cons _ _ => rfl
  rw [ho] at HO
  rw [hk] at HK
  have hc := hB.count
  have hl := hB.ln
  have g4 : ((4 : Int) < (n : Int)) = False := eq_false (by omega)
  by_cases h32 : qs.length = 32
  · rw [h32] at hc
    have hc : w.cell? ⟨p, 290, none⟩ = some (.int .i64 32) := hc
    clear h hB h32 hk hkl hl
    go_enter Tryd.func11, Tryd.ntmps11
    go_wp2_with fail
    refine HO.out.mono ?_
    rintro e w1 ⟨rfl, rfl⟩
    go_wp2_with fail
    refine HK.out.mono ?_
    rintro e w1 ⟨rfl, rfl⟩
    go_wp2_with fail
    go_ret2
    exact ⟨rfl, Kept.refl [] _⟩
  · have h2 : hasK K to = false ∧ K.length = 64 := by rcases h with h | h; exact absurd h h32; exact h
    have HN := Hid.mk (hasNext58 hB hup to)
    rw [h2.1, h2.2] at HN
    have e : (if (false : Bool) = true then decide (ser K to < 18446744073709551615) else decide ((64 : Nat) < 64)) = false := by simp
    rw [e] at HN
    have g32 : ((qs.length : Int) == 32) = false := by simp; omega
    clear h hB h32 hk hkl hl h2 e
    go_enter Tryd.func11, Tryd.ntmps11
    go_wp2_with fail
    refine HO.out.mono ?_
    rintro e w1 ⟨rfl, rfl⟩
    go_wp2_with fail
    refine HK.out.mono ?_
    rintro e w1 ⟨rfl, rfl⟩
    go_wp2_with fail
    refine HN.out.mono ?_
    rintro e w1 ⟨rfl, k1⟩
    go_wp2_with fail
    go_ret2
    exact ⟨rfl, k1⟩
set_option maxHeartbeats 1000000 in
/-- A Send. -/
theorem send20_ok (hB : IsO w p own K qs) (hup : Rise K) (hne : own ≠ []) (hol : own.length ≤ 1000) (to : List UInt8) (x : Lt) (a : Option Addr) (c : Nat) (hk : isKey to = true) (hn : x.args.length ≤ 4) (hx : ∀ W, Kept [p] w W → ReadsJ W (.slice a x.args.length c) x.args) (hfr : x.fr = own) (hser : x.ser = ser K to + 1) (h32 : qs.length < 32) (h64 : hasK K to = true ∨ K.length < 64) (hs : ser K to + 1 < 18446744073709551616) :
    Calls Tryd.prog 11 #[.pointer (some ⟨p, 0, none⟩), Sv to, .int .i64 x.kind, .slice a x.args.length c] w fun e w' => e = .returned (.tuple #[Uv (ser K to + 1), .int .i64 0]) ∧ ∃ a' c', IsO w' p own (setK K to (ser K to + 1)) (qs ++ [⟨to, x, a', c'⟩]) ∧ Kept [p] w w' ∧ Fresh w (.slice a' x.args.length c') := by
  have hkl := (isKey_iff to).1 hk
  have HK := Hid.mk (isKey26 (w := w) to (by omega))
  have HO := Hid.mk (owned34 hB)
  have ho : (!own.isEmpty) = true := by cases own with | nil => exact absurd rfl hne | cons _ _ => rfl
  rw [ho] at HO
  rw [hk] at HK
  have hc := hB.count
  have g4 : ((4 : Int) < (x.args.length : Int)) = False := eq_false (by omega)
  have HN := Hid.mk (hasNext58 hB hup to)
  have e : (if hasK K to = true then decide (ser K to < 18446744073709551615) else decide (K.length < 64)) = true := by
    split
    · simp; omega
    · rename_i hno
      rcases h64 with h | h
      · exact absurd h hno
      · simpa using h
  rw [e] at HN
  have g32 : ((qs.length : Int) == 32) = false := by simp; omega
  have HX := Hid.mk hx
  have HC1 : Hid (∀ W, Calls Tryd.prog 29 #[Sv to] W fun e w' => e = .returned (Sv to) ∧ Kept [] W w') := fun W => clone32 to (by omega)
  have HNX : Hid (∀ W, Kept [] w W → Calls Tryd.prog 30 #[.pointer (some ⟨p, 0, none⟩), Sv to] W fun e w' => e = .returned (Uv (ser K to + 1)) ∧ IsO w' p own (setK K to (ser K to + 1)) qs ∧ Kept [p] W w') := fun W k => next59 (hB.kept0 k) hup to h64 hs
  have HBX : Hid (∃ cs1, w.heap[p]? = some (.cells cs1 94 (0, 0))) := by obtain ⟨cs1, hb1, -⟩ := hB.box; exact ⟨_, hb1⟩
  have hpl := hB.lt
  have HXP : Hid (∀ W, Kept [p] w W → ReadsJ W (.slice a x.args.length c) x.args) := fun W k => hx W k
  rw [← hser] at HNX ⊢
  rw [← hfr] at hol ⊢
  rw [← hfr] at HNX
  have HKS : Hid (∃ K', setK K to x.ser = K') := ⟨_, rfl⟩
  obtain ⟨K', hK'⟩ := HKS.out
  rw [hK'] at HNX ⊢
  clear hB hk hkl e hK' HKS hx hfr hser hup hne
  go_enter Tryd.func11, Tryd.ntmps11
  go_wp2_with fail
  refine HO.out.mono ?_
  rintro e w1 ⟨rfl, rfl⟩
  go_wp2_with fail
  refine HK.out.mono ?_
  rintro e w1 ⟨rfl, rfl⟩
  go_wp2_with fail
  refine HN.out.mono ?_
  rintro e w1 ⟨rfl, k1⟩
  go_wp2_with fail
  refine (HC1.out _).mono ?_
  rintro e w2 ⟨rfl, k2⟩
  have k02 := k1.trans k2 (by simp)
  go_wp2_with fail
  refine (HNX.out _ k02).mono ?_
  rintro e w3 ⟨rfl, hB3, k3⟩
  have c3 := hB3.owner
  have hp3 := hB3.lt
  have k03 : Kept [p] w w3 := (k02.mono (by simp)).trans k3 (by simp)
  go_wp2_with fail
  obtain ⟨W4, e4, k4, hz4, hb4⟩ := box1 w3 (.cells #[Sv x.fr, .int .u64 (x.ser : Int), .int .i64 x.kind, .slice a x.args.length c] 25)
  rw [e4]
  have k04 : Kept [p] w W4 := k03.trans k4 (by simp)
  have HC := Hid.mk (copy17 x a c (HXP.out _ k04) (by omega) (by omega))
  obtain ⟨y0, y1, y2, y3⟩ := cells4 hb4
  have HB4 := Hid.mk (hB3.kept0 k4)
  clear hB3 c3 e4
  refine HC.out.mono ?_
  rintro e w5 ⟨a5, c5, rfl, hO5, k5, hf5⟩
  have HP5 := Hid.mk (push60 ⟨to, x, a5, c5⟩ (HB4.out.kept0 k5) h32 hO5)
  go_wp2_with fail
  refine HP5.out.mono ?_
  rintro e w6 ⟨rfl, hB6, k6⟩
  go_wp2_with fail
  go_ret2
  refine ⟨rfl, a5, c5, hB6, (k04.trans k5 (by simp)).trans k6 (by simp), fun g hg => ?_⟩
  have := hf5 g hg
  have := k04.size
  omega
end
end Go.Proofs.YtngnenbidpojeaaDoor
/-
  The program's outbox and the document's, side by side.
-/
namespace Go.Proofs.YtngnenbidpojeaaDoor
set_option maxRecDepth 100000
open Go.RowKit
set_option linter.unusedVariables false
section
variable {w0 w w' : World} {p pf : Nat} {v u : Value} {own : List UInt8} {K : List La} {qs ms : List Yq}
end
section
variable {w0 w w' : World} {p pf : Nat} {o : Ob} {B : Nat}
theorem GoodO.fit {qs : List Yq} (g : GoodO o) (h : qs.map ot = o.L) : Fitq qs := fun y hy => by
  have hm : ot y ∈ o.L := by rw [← h]; exact List.mem_map.2 ⟨y, hy, rfl⟩
  obtain ⟨h1, h2, h3, h4⟩ := g.lets _ hm
  obtain ⟨z, hz, e⟩ := (has_mem g.rise).1 h4
  have hk := (isKey_iff _).1 (g.key z hz).1
  have h2' : y.q.x.fr.length ≤ 40 ∧ y.q.x.args.length ≤ 4 := by have h3 := h2; simp only [ot, Lt.formed, Bool.and_eq_true] at h3; exact ⟨of_decide_eq_true h3.1, of_decide_eq_true h3.2⟩
  have e' : z.k = y.to := e
  rw [← e']
  omega
theorem GoodO.ne (g : GoodO o) : o.own ≠ [] ∧ o.own.length ≤ 40 := by
  have := (isKey_iff _).1 g.own
  refine ⟨fun e => ?_, this.2⟩
  rw [e] at this
  simp at this
end
end Go.Proofs.YtngnenbidpojeaaDoor
/-
  Unpack, and the document's.
-/
namespace Go.Proofs.YtngnenbidpojeaaDoor
open Go.RowKit
set_option linter.unusedVariables false
/-- Letters in memory of their own: the slice v owns the letters qs, each one's Args are a row of its own; all of it new since w0. -/
structure OwnL (w0 w : World) (v : Value) (qs : List Lq) : Prop where
  own : OwnsR 25 4 w v (CQ qs)
  args : ∀ q ∈ qs, OwnsJ w q.sl q.x.args
  fr : Fresh w0 v
  fra : ∀ q ∈ qs, Fresh w0 q.sl
theorem OwnL.nil (w0 w : World) : OwnL w0 w (.slice none 0 0) [] := ⟨OwnsR.nil 25 4 w, by simp, fresh_nil w0 0, by simp⟩
theorem OwnL.kept {S : List Nat} {w0 w w' : World} {v : Value} {qs : List Lq} (h : OwnL w0 w v qs) (k : Kept S w w') (hS : ∀ y ∈ S, v.ownBlock ≠ some y ∧ ∀ q ∈ qs, q.sl.ownBlock ≠ some y) : OwnL w0 w' v qs :=
  ⟨h.own.kept k (fun g hg hm => (hS g hm).1 hg), fun q hq => (h.args q hq).kept k (fun g hg hm => (hS g hm).2 q hq hg), h.fr, h.fra⟩
theorem OwnL.kept0 {w0 w w' : World} {v : Value} {qs : List Lq} (h : OwnL w0 w v qs) (k : Kept [] w w') : OwnL w0 w' v qs := h.kept k (by simp)
theorem OwnL.row {w0 w : World} {v : Value} {qs : List Lq} (h : OwnL w0 w v qs) : RowQ w v qs := h.own.reads (CQ_wide qs)
theorem OwnL.vals {w0 w : World} {v : Value} {qs : List Lq} (h : OwnL w0 w v qs) : ValsQ w qs := fun q hq => (h.args q hq).reads
/-- 'append(v, letter)'. -/
theorem OwnL.app {w0 w : World} {v : Value} {qs : List Lq} (h : OwnL w0 w v qs) (q : Lq) (hq : OwnsJ w q.sl q.x.args) (hf : Fresh w0 q.sl) (hs : w0.heap.size ≤ w.heap.size) (hn : qs.length ≤ 900000) : ∃ ad c w', (Builtin.append_ #[26, 26] 26 #[v, .slice (some ⟨w.heap.size, 0, none⟩) 1 1]).run Tryd.prog (w.alloc (.cells #[Sv q.x.fr, .int .u64 (q.x.ser : Int), .int .i64 q.x.kind, q.sl] 25)) = .ok (.slice ad (qs.length + 1) c) w' ∧ OwnL w0 w' (.slice ad (qs.length + 1) c) (qs ++ [q]) ∧ Kept v.ownBlock.toList w w' := by
  obtain ⟨ad, c, w', hrun, ho, k, hN⟩ := append_rowR rt28 h.own (cellsQ q) rfl (fun u hu => by simp [cellsQ] at hu; rcases hu with rfl | rfl | rfl | rfl <;> rfl) (by rw [CQ_length]; exact hn) 25 (0, 0) 26
  rw [CQ_length] at *
  refine ⟨ad, c, w', hrun, ⟨?_, fun y hy => ?_, fun g hg => ?_, fun y hy => ?_⟩, k⟩
  · rw [CQ_append]; exact ho
  · have hy' : OwnsJ w y.sl y.x.args := by
      rcases List.mem_append.1 hy with hy | hy
      · exact h.args y hy
      · simp at hy; subst hy; exact hq
    exact hy'.kept k (fun g hg hm => by rw [Option.mem_toList] at hm; exact own_apart hy' h.own (by decide) hg hm)
  · rcases hN g hg with h1 | h1
    · exact h.fr g h1
    · omega
  · rcases List.mem_append.1 hy with hy | hy
    · exact h.fra y hy
    · simp at hy; subst hy; exact hf
section
variable {w : World}
end
end Go.Proofs.YtngnenbidpojeaaDoor
/-
  An inbox in memory: a block of eight letters and their count. And 'copy' of rows of k cells, over any program.
-/
namespace Go.Proofs.YtngnenbidpojeaaDoor
open Go.RowKit
set_option linter.unusedVariables false
section
variable {P : Program}
end
theorem put4_cell (w : World) (p o : Nat) (v0 v1 v2 v3 : Value) {a : Addr} (h : a.block = p → a.off < o ∨ o + 4 ≤ a.off) : ((((w.setCell ⟨p, o, none⟩ v0).setCell ⟨p, o + 1, none⟩ v1).setCell ⟨p, o + 2, none⟩ v2).setCell ⟨p, o + 3, none⟩ v3).cell? a = w.cell? a := by
  rw [World.cell?_setCell_other, World.cell?_setCell_other, World.cell?_setCell_other, World.cell?_setCell_other]
  all_goals (intro e; subst e; have := h rfl; simp at this; omega)
/-- A struct of four cells that is stored whole, into a row. -/
theorem putL {w : World} {p o : Nat} {L : List Value} {t : TypeId} (h : w.heap[p]? = some (.cells L.toArray t (0, 0))) (x0 x1 x2 x3 : Value) : ∃ W, (((w.setCell ⟨p, o, none⟩ x0).setCell ⟨p, o + 1, none⟩ x1).setCell ⟨p, o + 2, none⟩ x2).setCell ⟨p, o + 3, none⟩ x3 = W ∧ Kept [p] w W ∧ W.heap[p]? = some (.cells ((((L.set o x0).set (o + 1) x1).set (o + 2) x2).set (o + 3) x3).toArray t (0, 0)) ∧ W.heap.size = w.heap.size :=
  ⟨_, rfl, ((((Kept.refl [p] w).setCell (p := ⟨p, o, none⟩) (.inl (by simp)) x0).setCell (p := ⟨p, o + 1, none⟩) (.inl (by simp)) x1).setCell (p := ⟨p, o + 2, none⟩) (.inl (by simp)) x2).setCell (p := ⟨p, o + 3, none⟩) (.inl (by simp)) x3, set_list (set_list (set_list (set_list h))), by simp⟩
/-- No letter. -/
def zq : Lq := ⟨⟨[], 0, 0, []⟩, none, 0⟩
/-- The eight places. -/
def padQ (qs : List Lq) : List Lq := qs ++ List.replicate (8 - qs.length) zq
/-- An inbox' cells. -/
def cellsB (qs : List Lq) : List Value := (CQ (padQ qs)).flatten ++ [.int .i64 (qs.length : Int)]
theorem padQ_length {qs : List Lq} (h : qs.length ≤ 8) : (padQ qs).length = 8 := by simp [padQ]; omega
theorem flatB_length {qs : List Lq} (h : qs.length ≤ 8) : (CQ (padQ qs)).flatten.length = 32 := by rw [(CQ_wide _).flat_length, CQ_length, padQ_length h]
theorem cellsB_length {qs : List Lq} (h : qs.length ≤ 8) : (cellsB qs).length = 33 := by simp only [cellsB, List.length_append, flatB_length h]; rfl
theorem cellsB_count {qs : List Lq} (h : qs.length ≤ 8) : (cellsB qs)[32]? = some (.int .i64 (qs.length : Int)) := by
  rw [cellsB, List.getElem?_append_right (by rw [flatB_length h]; omega), flatB_length h]
  rfl
theorem cellsB_at {qs : List Lq} (h : qs.length ≤ 8) {j : Nat} {q : Lq} (hj : (padQ qs)[j]? = some q) {i : Nat} {v : Value} (hi : (cellsQ q)[i]? = some v) : (cellsB qs)[j * 4 + i]? = some v := by
  have h1 : j < 8 := by
    have := (List.getElem?_eq_some_iff.1 hj).1
    rw [padQ_length h] at this; exact this
  have h2 : i < 4 := (List.getElem?_eq_some_iff.1 hi).1
  rw [cellsB, List.getElem?_append_left (by rw [flatB_length h]; omega)]
  exact (CQ_wide _).at j (cellsQ q) (by simp [CQ, hj]) i v hi
theorem padQ_get {qs : List Lq} {j : Nat} {q : Lq} (hj : qs[j]? = some q) : (padQ qs)[j]? = some q := by
  rw [padQ, List.getElem?_append_left (List.getElem?_eq_some_iff.1 hj).1]; exact hj
/-- A letter more. -/
theorem cellsB_push (qs : List Lq) (q : Lq) (h : qs.length < 8) : (((((cellsB qs).set (qs.length * 4) (Sv q.x.fr)).set (qs.length * 4 + 1) (.int .u64 (q.x.ser : Int))).set (qs.length * 4 + 2) (.int .i64 q.x.kind)).set (qs.length * 4 + 3) q.sl).set 32 (.int .i64 ((qs.length + 1 : Nat) : Int)) = cellsB (qs ++ [q]) := by
  match qs, h with
  | [], _ => rfl
  | [_], _ => rfl
  | [_, _], _ => rfl
  | [_, _, _], _ => rfl
  | [_, _, _, _], _ => rfl
  | [_, _, _, _, _], _ => rfl
  | [_, _, _, _, _, _], _ => rfl
  | [_, _, _, _, _, _, _], _ => rfl
  | _ :: _ :: _ :: _ :: _ :: _ :: _ :: _ :: _, h => simp at h; omega
/-- A letter less. -/
theorem cellsB_pop (q : Lq) (qs : List Lq) (h : qs.length < 8) : ((((((CQ qs).flatten ++ (cellsB (q :: qs)).drop (CQ qs).flatten.length).set 32 (.int .i64 (qs.length : Int))).set (qs.length * 4) (Sv [])).set (qs.length * 4 + 1) (.int .u64 0)).set (qs.length * 4 + 2) (.int .i64 0)).set (qs.length * 4 + 3) (.slice none 0 0) = cellsB qs := by
  match qs, h with
  | [], _ => rfl
  | [_], _ => rfl
  | [_, _], _ => rfl
  | [_, _, _], _ => rfl
  | [_, _, _, _], _ => rfl
  | [_, _, _, _, _], _ => rfl
  | [_, _, _, _, _, _], _ => rfl
  | [_, _, _, _, _, _, _], _ => rfl
  | _ :: _ :: _ :: _ :: _ :: _ :: _ :: _ :: _, h => simp at h; omega
/-- The inbox at block p has the letters qs. -/
structure IsB (w : World) (p : Nat) (qs : List Lq) : Prop where
  box : w.heap[p]? = some (.cells (cellsB qs).toArray 67 (0, 0))
  len : qs.length ≤ 8
  good : ∀ q ∈ qs, q.x.ok ∧ q.x.formed = true
  args : ∀ q ∈ qs, OwnsJ w q.sl q.x.args
section
variable {w w' : World} {p : Nat} {qs : List Lq}
theorem IsB.lt (h : IsB w p qs) : p < w.heap.size := lt_of_block h.box
theorem IsB.kept {S : List Nat} (h : IsB w p qs) (k : Kept S w w') (hp : p ∉ S) (hq : ∀ q ∈ qs, ∀ g, q.sl.ownBlock = some g → g ∉ S) : IsB w' p qs :=
  ⟨k.keeps h.box hp, h.len, h.good, fun q hm => (h.args q hm).kept k (hq q hm)⟩
theorem IsB.kept0 (h : IsB w p qs) (k : Kept [] w w') : IsB w' p qs := h.kept k (by simp) (by simp)
theorem IsB.cell (h : IsB w p qs) {i : Nat} {v : Value} (hi : (cellsB qs)[i]? = some v) : w.cell? ⟨p, i, none⟩ = some v := by
  unfold World.cell?
  rw [h.box]
  simpa using hi
theorem IsB.free (h : IsB w p qs) (i : Nat) : w.frozen? ⟨p, i, none⟩ = false := by
  simp [World.frozen?, h.box]
theorem IsB.count (h : IsB w p qs) : w.cell? ⟨p, 32, none⟩ = some (.int .i64 (qs.length : Int)) := h.cell (cellsB_count h.len)
theorem IsB.at (h : IsB w p qs) {j : Nat} {q : Lq} (hj : qs[j]? = some q) : w.cell? ⟨p, j * 4, none⟩ = some (Sv q.x.fr) ∧ w.cell? ⟨p, j * 4 + 1, none⟩ = some (.int .u64 (q.x.ser : Int)) ∧ w.cell? ⟨p, j * 4 + 2, none⟩ = some (.int .i64 q.x.kind) ∧ w.cell? ⟨p, j * 4 + 3, none⟩ = some q.sl :=
  ⟨h.cell (cellsB_at h.len (padQ_get hj) (i := 0) rfl), h.cell (cellsB_at h.len (padQ_get hj) (i := 1) rfl), h.cell (cellsB_at h.len (padQ_get hj) (i := 2) rfl), h.cell (cellsB_at h.len (padQ_get hj) (i := 3) rfl)⟩
theorem IsB.any (h : IsB w p qs) {i : Nat} (hi : i < 33) : ∃ v, w.cell? ⟨p, i, none⟩ = some v :=
  ⟨_, h.cell (List.getElem?_eq_getElem (by rw [cellsB_length h.len]; exact hi))⟩
/-- The letters of an inbox as a row. -/
theorem IsB.row (h : IsB w p qs) : RowQ w (.slice (some ⟨p, 0, none⟩) qs.length 8) qs := by
  refine ⟨some ⟨p, 0, none⟩, 8, by rw [CQ_length], by rw [CQ_length]; exact h.len, by unfold maxLen; omega, by simp, fun _ => ⟨p, 0, rfl, fun j r hr i x hx => ?_⟩⟩
  rw [CQ, List.getElem?_map, Option.map_eq_some_iff] at hr
  obtain ⟨q, hq, rfl⟩ := hr
  rw [Nat.zero_add]
  exact h.cell (cellsB_at h.len (padQ_get hq) hx)
theorem IsB.vals (h : IsB w p qs) : ValsQ w qs := fun q hq => (h.args q hq).reads
theorem IsB.new (w : World) : IsB (w.alloc (.cells (cellsB []).toArray 67)) w.heap.size [] :=
  ⟨heap_alloc_new w _, by simp, by simp, by simp⟩
end
end Go.Proofs.YtngnenbidpojeaaDoor
