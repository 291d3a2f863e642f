import Derived.Laws.CopyRow
import Derived.Test.YtngnenbidpojeaaGreatDoorV05
import Derived.Test.YtngnenbidpojeaaGreatDoorV08
import Derived.Test.YtngnenbidpojeaaGreatDoorV09
import Derived.Test.YtngnenbidpojeaaGreatDoorV10
import Derived.Test.YtngnenbidpojeaaGreatDoorV14
/-
  An inbox in memory: a block of eight letters and their count. And 'copy' of rows of k cells, over any program.
-/
namespace Go.Proofs.YtngnenbidpojeaaGreatDoor
open Go.RowKit
set_option linter.unusedVariables false
section
variable {P : Program}
end
theorem put4_cell (w : World) (p o : Nat) (v0 v1 v2 v3 : Value) {a : Addr} (h : a.block = p → a.off < o ∨ o + 4 ≤ a.off) : ((((w.setCell ⟨p, o, none⟩ v0).setCell ⟨p, o + 1, none⟩ v1).setCell ⟨p, o + 2, none⟩ v2).setCell ⟨p, o + 3, none⟩ v3).cell? a = w.cell? a := by
  rw [World.cell?_setCell_other, World.cell?_setCell_other, World.cell?_setCell_other, World.cell?_setCell_other]
  all_goals (intro e; subst e; have := h rfl; simp at this; omega)
/-- A struct of four cells that is stored whole, into a row. -/
theorem putL {w : World} {p o : Nat} {L : List Value} {t : TypeId} (h : w.heap[p]? = some (.cells L.toArray t (0, 0))) (x0 x1 x2 x3 : Value) : ∃ W, (((w.setCell ⟨p, o, none⟩ x0).setCell ⟨p, o + 1, none⟩ x1).setCell ⟨p, o + 2, none⟩ x2).setCell ⟨p, o + 3, none⟩ x3 = W ∧ Kept [p] w W ∧ W.heap[p]? = some (.cells ((((L.set o x0).set (o + 1) x1).set (o + 2) x2).set (o + 3) x3).toArray t (0, 0)) ∧ W.heap.size = w.heap.size :=
  ⟨_, rfl, ((((Kept.refl [p] w).setCell (p := ⟨p, o, none⟩) (.inl (by simp)) x0).setCell (p := ⟨p, o + 1, none⟩) (.inl (by simp)) x1).setCell (p := ⟨p, o + 2, none⟩) (.inl (by simp)) x2).setCell (p := ⟨p, o + 3, none⟩) (.inl (by simp)) x3, set_list (set_list (set_list (set_list h))), by simp⟩
/-- No letter. -/
def zq : Lq := ⟨⟨[], 0, 0, []⟩, none, 0⟩
/-- The eight places. -/
def padQ (qs : List Lq) : List Lq := qs ++ List.replicate (8 - qs.length) zq
/-- An inbox' cells. -/
def cellsB (qs : List Lq) : List Value := (CQ (padQ qs)).flatten ++ [.int .i64 (qs.length : Int)]
theorem padQ_length {qs : List Lq} (h : qs.length ≤ 8) : (padQ qs).length = 8 := by simp [padQ]; omega
theorem flatB_length {qs : List Lq} (h : qs.length ≤ 8) : (CQ (padQ qs)).flatten.length = 32 := by rw [(CQ_wide _).flat_length, CQ_length, padQ_length h]
theorem cellsB_length {qs : List Lq} (h : qs.length ≤ 8) : (cellsB qs).length = 33 := by simp only [cellsB, List.length_append, flatB_length h]; rfl
theorem cellsB_count {qs : List Lq} (h : qs.length ≤ 8) : (cellsB qs)[32]? = some (.int .i64 (qs.length : Int)) := by
  rw [cellsB, List.getElem?_append_right (by rw [flatB_length h]; omega), flatB_length h]
  rfl
theorem cellsB_at {qs : List Lq} (h : qs.length ≤ 8) {j : Nat} {q : Lq} (hj : (padQ qs)[j]? = some q) {i : Nat} {v : Value} (hi : (cellsQ q)[i]? = some v) : (cellsB qs)[j * 4 + i]? = some v := by
  have h1 : j < 8 := by
    have := (List.getElem?_eq_some_iff.1 hj).1
    rw [padQ_length h] at this; exact this
  have h2 : i < 4 := (List.getElem?_eq_some_iff.1 hi).1
  rw [cellsB, List.getElem?_append_left (by rw [flatB_length h]; omega)]
  exact (CQ_wide _).at j (cellsQ q) (by simp [CQ, hj]) i v hi
theorem padQ_get {qs : List Lq} {j : Nat} {q : Lq} (hj : qs[j]? = some q) : (padQ qs)[j]? = some q := by
  rw [padQ, List.getElem?_append_left (List.getElem?_eq_some_iff.1 hj).1]; exact hj
/-- A letter more. -/
theorem cellsB_push (qs : List Lq) (q : Lq) (h : qs.length < 8) : (((((cellsB qs).set (qs.length * 4) (Sv q.x.fr)).set (qs.length * 4 + 1) (.int .u64 (q.x.ser : Int))).set (qs.length * 4 + 2) (.int .i64 q.x.kind)).set (qs.length * 4 + 3) q.sl).set 32 (.int .i64 ((qs.length + 1 : Nat) : Int)) = cellsB (qs ++ [q]) := by
  match qs, h with
  | [], _ => rfl
  | [_], _ => rfl
  | [_, _], _ => rfl
  | [_, _, _], _ => rfl
  | [_, _, _, _], _ => rfl
  | [_, _, _, _, _], _ => rfl
  | [_, _, _, _, _, _], _ => rfl
  | [_, _, _, _, _, _, _], _ => rfl
  | _ :: _ :: _ :: _ :: _ :: _ :: _ :: _ :: _, h => simp at h; omega
/-- A letter less. -/
theorem cellsB_pop (q : Lq) (qs : List Lq) (h : qs.length < 8) : ((((((CQ qs).flatten ++ (cellsB (q :: qs)).drop (CQ qs).flatten.length).set 32 (.int .i64 (qs.length : Int))).set (qs.length * 4) (Sv [])).set (qs.length * 4 + 1) (.int .u64 0)).set (qs.length * 4 + 2) (.int .i64 0)).set (qs.length * 4 + 3) (.slice none 0 0) = cellsB qs := by
  match qs, h with
  | [], _ => rfl
  | [_], _ => rfl
  | [_, _], _ => rfl
  | [_, _, _], _ => rfl
  | [_, _, _, _], _ => rfl
  | [_, _, _, _, _], _ => rfl
  | [_, _, _, _, _, _], _ => rfl
  | [_, _, _, _, _, _, _], _ => rfl
  | _ :: _ :: _ :: _ :: _ :: _ :: _ :: _ :: _, h => simp at h; omega
/-- Letters that are laid into an inbox of none. -/
theorem cellsB_fill (qs : List Lq) (h : qs.length ≤ 8) : (CQ qs).flatten ++ ((cellsB []).set 32 (.int .i64 (qs.length : Int))).drop (CQ qs).flatten.length = cellsB qs := by
  match qs, h with
  | [], _ => rfl
  | [_], _ => rfl
  | [_, _], _ => rfl
  | [_, _, _], _ => rfl
  | [_, _, _, _], _ => rfl
  | [_, _, _, _, _], _ => rfl
  | [_, _, _, _, _, _], _ => rfl
  | [_, _, _, _, _, _, _], _ => rfl
  | [_, _, _, _, _, _, _, _], _ => rfl
  | _ :: _ :: _ :: _ :: _ :: _ :: _ :: _ :: _ :: _, h => simp at h
/-- The inbox at block p has the letters qs. -/
structure IsB (w : World) (p : Nat) (qs : List Lq) : Prop where
  box : w.heap[p]? = some (.cells (cellsB qs).toArray 140 (0, 0))
  len : qs.length ≤ 8
  good : ∀ q ∈ qs, q.x.ok ∧ q.x.formed = true
  args : ∀ q ∈ qs, OwnsJ w q.sl q.x.args
section
variable {w w' : World} {p : Nat} {qs : List Lq}
theorem IsB.lt (h : IsB w p qs) : p < w.heap.size := lt_of_block h.box
theorem IsB.kept {S : List Nat} (h : IsB w p qs) (k : Kept S w w') (hp : p ∉ S) (hq : ∀ q ∈ qs, ∀ g, q.sl.ownBlock = some g → g ∉ S) : IsB w' p qs :=
  ⟨k.keeps h.box hp, h.len, h.good, fun q hm => (h.args q hm).kept k (hq q hm)⟩
theorem IsB.kept0 (h : IsB w p qs) (k : Kept [] w w') : IsB w' p qs := h.kept k (by simp) (by simp)
theorem IsB.cell (h : IsB w p qs) {i : Nat} {v : Value} (hi : (cellsB qs)[i]? = some v) : w.cell? ⟨p, i, none⟩ = some v := by
  unfold World.cell?
  rw [h.box]
  simpa using hi
theorem IsB.free (h : IsB w p qs) (i : Nat) : w.frozen? ⟨p, i, none⟩ = false := by
  simp [World.frozen?, h.box]
theorem IsB.count (h : IsB w p qs) : w.cell? ⟨p, 32, none⟩ = some (.int .i64 (qs.length : Int)) := h.cell (cellsB_count h.len)
theorem IsB.at (h : IsB w p qs) {j : Nat} {q : Lq} (hj : qs[j]? = some q) : w.cell? ⟨p, j * 4, none⟩ = some (Sv q.x.fr) ∧ w.cell? ⟨p, j * 4 + 1, none⟩ = some (.int .u64 (q.x.ser : Int)) ∧ w.cell? ⟨p, j * 4 + 2, none⟩ = some (.int .i64 q.x.kind) ∧ w.cell? ⟨p, j * 4 + 3, none⟩ = some q.sl :=
  ⟨h.cell (cellsB_at h.len (padQ_get hj) (i := 0) rfl), h.cell (cellsB_at h.len (padQ_get hj) (i := 1) rfl), h.cell (cellsB_at h.len (padQ_get hj) (i := 2) rfl), h.cell (cellsB_at h.len (padQ_get hj) (i := 3) rfl)⟩
theorem IsB.any (h : IsB w p qs) {i : Nat} (hi : i < 33) : ∃ v, w.cell? ⟨p, i, none⟩ = some v :=
  ⟨_, h.cell (List.getElem?_eq_getElem (by rw [cellsB_length h.len]; exact hi))⟩
/-- The letters of an inbox as a row. -/
theorem IsB.row (h : IsB w p qs) : RowQ w (.slice (some ⟨p, 0, none⟩) qs.length 8) qs := by
  refine ⟨some ⟨p, 0, none⟩, 8, by rw [CQ_length], by rw [CQ_length]; exact h.len, by unfold maxLen; omega, by simp, fun _ => ⟨p, 0, rfl, fun j r hr i x hx => ?_⟩⟩
  rw [CQ, List.getElem?_map, Option.map_eq_some_iff] at hr
  obtain ⟨q, hq, rfl⟩ := hr
  rw [Nat.zero_add]
  exact h.cell (cellsB_at h.len (padQ_get hq) hx)
theorem IsB.vals (h : IsB w p qs) : ValsQ w qs := fun q hq => (h.args q hq).reads
theorem IsB.new (w : World) : IsB (w.alloc (.cells (cellsB []).toArray 140)) w.heap.size [] :=
  ⟨heap_alloc_new w _, by simp, by simp, by simp⟩
end
end Go.Proofs.YtngnenbidpojeaaGreatDoor
/-
  Len, First and Push of an inbox.
-/
namespace Go.Proofs.YtngnenbidpojeaaGreatDoor
open Go.RowKit
set_option linter.unusedVariables false
/-- What Push answers, of an inbox with n letters. -/
def pushE (n : Nat) (x : Lt) : Int := if x.formed = false then 1 else if n = 8 then 7 else 0
/-- What Push leaves. -/
def pushL (l : List Lt) (x : Lt) : List Lt := if x.formed = true ∧ l.length ≠ 8 then l ++ [x] else l
def PushAt (w : World) (p : Nat) (qs : List Lq) (x : Lt) (e : Ending) (w' : World) : Prop :=
  ∃ qs', e = .returned (.int .i64 (pushE qs.length x)) ∧ IsB w' p qs' ∧ qs'.map (·.x) = pushL (qs.map (·.x)) x ∧ Kept [p] w w' ∧ ∀ q ∈ qs', q ∈ qs ∨ Fresh w q.sl
section
variable {w : World} {p : Nat} {qs : List Lq}
theorem push_bad {w' : World} {x : Lt} (h : IsB w' p qs) (hf : x.formed = false) (k : Kept [] w w') : PushAt w p qs x (.returned (.int .i64 1)) w' :=
  ⟨qs, by unfold pushE; rw [if_pos hf], h, by unfold pushL; rw [if_neg (by simp [hf])], k.mono (by simp), fun q hq => .inl hq⟩
theorem push_full {w' : World} {x : Lt} (h : IsB w' p qs) (hf : x.formed = true) (hn : qs.length = 8) (k : Kept [] w w') : PushAt w p qs x (.returned (.int .i64 7)) w' :=
  ⟨qs, by unfold pushE; rw [if_neg (by simp [hf]), if_pos hn], h, by unfold pushL; rw [if_neg (by simp [hn])], k.mono (by simp), fun q hq => .inl hq⟩
theorem push_yes {w' : World} {x : Lt} {a : Option Addr} {c : Nat} (hf : x.formed = true) (hn : qs.length ≠ 8) (h : IsB w' p (qs ++ [⟨x, a, c⟩])) (k : Kept [p] w w') (hfr : Fresh w (.slice a x.args.length c)) : PushAt w p qs x (.returned (.int .i64 0)) w' :=
  ⟨_, by unfold pushE; rw [if_neg (by simp [hf]), if_neg hn], h, by unfold pushL; rw [if_pos ⟨hf, by simpa using hn⟩]; simp, k, fun q hq => by
    rcases List.mem_append.1 hq with h | h
    · exact .inl h
    · simp at h; subst h; exact .inr hfr⟩
set_option maxRecDepth 100000 in
set_option maxHeartbeats 1000000 in
theorem len21 (hB : IsB w p qs) : Calls Tryz.prog 16 #[.pointer (some ⟨p, 0, none⟩)] w fun e w' => e = .returned (.int .i64 (qs.length : Int)) ∧ w = w' := by
  have hc := hB.count
  clear hB
  go_enter Tryz.func16, Tryz.ntmps16
  go_wp2_with fail
  go_ret
  exact ⟨rfl, rfl⟩
set_option maxRecDepth 100000 in
set_option maxHeartbeats 1000000 in
theorem new10 : Calls Tryz.prog 58 #[] w fun e w' => e = .returned (.pointer (some ⟨w.heap.size, 0, none⟩)) ∧ IsB w' w.heap.size [] ∧ Kept [] w w' ∧ w'.heap.size = w.heap.size + 1 := by
  go_enter Tryz.func58, Tryz.ntmps58
  go_wp2_with fail
  go_ret
  exact ⟨rfl, IsB.new w, (Kept.refl [] w).alloc _, by simp⟩
set_option maxRecDepth 100000 in
set_option maxHeartbeats 1000000 in
theorem push11 (x : Lt) (a : Option Addr) (c : Nat) (hB : IsB w p qs) (hx : ReadsJ w (.slice a x.args.length c) x.args) (hok : x.ok) :
    Calls Tryz.prog 22 #[.pointer (some ⟨p, 0, none⟩), Lv x a c] w fun e w' => PushAt w p qs x e w' := by
  have HB := Hid.mk hB
  have HX := Hid.mk hx
  have H1 : Hid (∀ W, IsB W p qs → x.formed = false → Kept [] w W → PushAt w p qs x (.returned (.int .i64 1)) W) := fun W => push_bad
  have H2 : Hid (∀ W, IsB W p qs → x.formed = true → qs.length = 8 → Kept [] w W → PushAt w p qs x (.returned (.int .i64 7)) W) := fun W => push_full
  have H3 : Hid (∀ W a c, x.formed = true → qs.length ≠ 8 → IsB W p (qs ++ [⟨x, a, c⟩]) → Kept [p] w W → Fresh w (.slice a x.args.length c) → PushAt w p qs x (.returned (.int .i64 0)) W) := fun W a c => push_yes
  generalize PushAt w p qs x = R at H1 H2 H3
  clear hB hx
  go_enter Tryz.func22, Tryz.ntmps22
  go_wp2_with fail
  obtain ⟨W0, e0, k0, hz0, hb0⟩ := box1 w (.cells #[Sv x.fr, .int .u64 (x.ser : Int), .int .i64 x.kind, .slice a x.args.length c] 81)
  rw [e0]
  clear e0
  refine (formed13 x a c).mono ?_
  rintro e w1 ⟨rfl, k1⟩
  have hb1 := k1.keeps hb0 (by simp)
  have k01 := k0.trans k1 (by simp)
  have hB1 := HB.out.kept0 k01
  have hc1 := hB1.count
  cases hfm : x.formed with
  | false =>
    go_wp2_with fail
    exact H1.out _ hB1 hfm k01
  | true =>
    have HF := Hid.mk hfm
    have hfl := formed_le hfm
    clear hfm
    have hlen := hB1.len
    by_cases h8 : qs.length = 8
    · have g8 : ((qs.length : Int) == 8) = true := by simp; omega
      have H8 := Hid.mk h8
      clear h8
      go_wp2_with fail
      exact H2.out _ hB1 HF.out H8.out k01
    · have g8 : ((qs.length : Int) == 8) = false := by simp; omega
      have h8' : qs.length < 8 := by omega
      have H8 := Hid.mk h8
      clear h8 hlen
      have kd := k01.drew
      have hB2 := HB.out.kept0 kd
      have hbd : w1.drew.heap[w.heap.size]? = some (.cells #[Sv x.fr, .int .u64 (x.ser : Int), .int .i64 x.kind, .slice a x.args.length c] 81 (0, 0)) := hb1
      have HS : Hid (∀ W, Kept [] w1.drew W → (W.cell? ⟨p, 32, none⟩ = some (.int .i64 (qs.length : Int)) ∧ W.cell? ⟨w.heap.size, 0, none⟩ = some (Sv x.fr) ∧ W.cell? ⟨w.heap.size, 1, none⟩ = some (.int .u64 (x.ser : Int)) ∧ W.cell? ⟨w.heap.size, 2, none⟩ = some (.int .i64 x.kind) ∧ W.cell? ⟨w.heap.size, 3, none⟩ = some (.slice a x.args.length c))) := fun W k => by
        obtain ⟨c0, c1, c2, c3⟩ := cells4 hbd
        exact ⟨k.cell_eq hB2.count, k.cell_eq c0, k.cell_eq c1, k.cell_eq c2, k.cell_eq c3⟩
      have S0 := HS.out _ (Kept.refl [] _)
      obtain ⟨d0, hd0⟩ := hB2.any (i := qs.length * 4) (by omega)
      obtain ⟨d1, hd1⟩ := hB2.any (i := qs.length * 4 + 1) (by omega)
      obtain ⟨d2, hd2⟩ := hB2.any (i := qs.length * 4 + 2) (by omega)
      obtain ⟨d3, hd3⟩ := hB2.any (i := qs.length * 4 + 3) (by omega)
      have HD : Hid (∀ W, Kept [] w1.drew W → (W.cell? ⟨p, qs.length * 4, none⟩ = some d0 ∧ W.cell? ⟨p, qs.length * 4 + 1, none⟩ = some d1 ∧ W.cell? ⟨p, qs.length * 4 + 2, none⟩ = some d2 ∧ W.cell? ⟨p, qs.length * 4 + 3, none⟩ = some d3) ∧ (W.frozen? ⟨p, qs.length * 4, none⟩ = false ∧ W.frozen? ⟨p, qs.length * 4 + 1, none⟩ = false ∧ W.frozen? ⟨p, qs.length * 4 + 2, none⟩ = false ∧ W.frozen? ⟨p, qs.length * 4 + 3, none⟩ = false)) := fun W k =>
        ⟨⟨k.cell_eq hd0, k.cell_eq hd1, k.cell_eq hd2, k.cell_eq hd3⟩, (hB2.kept0 k).free _, (hB2.kept0 k).free _, (hB2.kept0 k).free _, (hB2.kept0 k).free _⟩
      clear hd0 hd1 hd2 hd3
      have HP : Hid (∀ W a2 c2, Kept [] w1.drew W → ((((((W.setCell ⟨p, qs.length * 4, none⟩ (Sv x.fr)).setCell ⟨p, qs.length * 4 + 1, none⟩ (.int .u64 (x.ser : Int))).setCell ⟨p, qs.length * 4 + 2, none⟩ (.int .i64 x.kind)).setCell ⟨p, qs.length * 4 + 3, none⟩ (.slice a2 x.args.length c2)).cell? ⟨p, 32, none⟩ = some (.int .i64 (qs.length : Int))) ∧ (((((W.setCell ⟨p, qs.length * 4, none⟩ (Sv x.fr)).setCell ⟨p, qs.length * 4 + 1, none⟩ (.int .u64 (x.ser : Int))).setCell ⟨p, qs.length * 4 + 2, none⟩ (.int .i64 x.kind)).setCell ⟨p, qs.length * 4 + 3, none⟩ (.slice a2 x.args.length c2)).cell? ⟨w.heap.size, 0, none⟩ = some (Sv x.fr)) ∧ (((((W.setCell ⟨p, qs.length * 4, none⟩ (Sv x.fr)).setCell ⟨p, qs.length * 4 + 1, none⟩ (.int .u64 (x.ser : Int))).setCell ⟨p, qs.length * 4 + 2, none⟩ (.int .i64 x.kind)).setCell ⟨p, qs.length * 4 + 3, none⟩ (.slice a2 x.args.length c2)).cell? ⟨w.heap.size, 1, none⟩ = some (.int .u64 (x.ser : Int))) ∧ (((((W.setCell ⟨p, qs.length * 4, none⟩ (Sv x.fr)).setCell ⟨p, qs.length * 4 + 1, none⟩ (.int .u64 (x.ser : Int))).setCell ⟨p, qs.length * 4 + 2, none⟩ (.int .i64 x.kind)).setCell ⟨p, qs.length * 4 + 3, none⟩ (.slice a2 x.args.length c2)).cell? ⟨w.heap.size, 2, none⟩ = some (.int .i64 x.kind)) ∧ (((((W.setCell ⟨p, qs.length * 4, none⟩ (Sv x.fr)).setCell ⟨p, qs.length * 4 + 1, none⟩ (.int .u64 (x.ser : Int))).setCell ⟨p, qs.length * 4 + 2, none⟩ (.int .i64 x.kind)).setCell ⟨p, qs.length * 4 + 3, none⟩ (.slice a2 x.args.length c2)).cell? ⟨w.heap.size, 3, none⟩ = some (.slice a x.args.length c)))) := fun W a2 c2 k => by
        have hpl := HB.out.lt
        have := HS.out W k
        rw [put4_cell _ _ _ _ _ _ _ (by intro _; simp; omega), put4_cell _ _ _ _ _ _ _ (by simp; omega), put4_cell _ _ _ _ _ _ _ (by simp; omega), put4_cell _ _ _ _ _ _ _ (by simp; omega), put4_cell _ _ _ _ _ _ _ (by simp; omega)]
        exact this
      have hi0 : (0 : Int) ≤ (qs.length : Int) := by omega
      have hi1 : (qs.length : Int) < 8 := by omega
      have HC := Hid.mk (copy17 x a c (HX.out.kept kd (by simp)) (by omega) (by omega))
      have HKD := Hid.mk kd
      clear hB2 hbd hb1 hb0 k0 k1 hz0 kd
      go_wp2_with fail
      go_region_held3 (fun W => W.cell? ⟨p, 32, none⟩ = some (.int .i64 (qs.length : Int)) ∧ W.cell? ⟨w.heap.size, 0, none⟩ = some (Sv x.fr) ∧ W.cell? ⟨w.heap.size, 1, none⟩ = some (.int .u64 (x.ser : Int)) ∧ W.cell? ⟨w.heap.size, 2, none⟩ = some (.int .i64 x.kind) ∧ W.cell? ⟨w.heap.size, 3, none⟩ = some (.slice a x.args.length c)) (first | exact S0 | exact S1 | exact HP.out _ _ _ k2) (first | (go_at_call 75; refine HC.out.mono ?_; rintro e w2 ⟨a2, c2, rfl, hO2, k2, hf2⟩; have S1 := HS.out _ k2; obtain ⟨⟨j0, j1, j2, j3⟩, f0, f1, f2, f3⟩ := HD.out _ k2))
      clear S0 S1 j0 j1 j2 j3 f0 f1 f2 f3
      have hB3 := HB.out.kept0 (HKD.out.trans k2 (by simp))
      have hcc : ∀ v0 v1 v2 v3, (((((cellsB qs).set (qs.length * 4) v0).set (qs.length * 4 + 1) v1).set (qs.length * 4 + 2) v2).set (qs.length * 4 + 3) v3)[32]? = some (.int .i64 (qs.length : Int)) := fun v0 v1 v2 v3 => by
        rw [List.getElem?_set_ne (by omega), List.getElem?_set_ne (by omega), List.getElem?_set_ne (by omega), List.getElem?_set_ne (by omega)]
        exact cellsB_count hB3.len
      obtain ⟨W3, e3, k3, h3, hz3⟩ := putL (o := qs.length * 4) hB3.box (Sv x.fr) (.int .u64 (x.ser : Int)) (.int .i64 x.kind) (.slice a2 x.args.length c2)
      have hc3 : W3.cell? ⟨p, 32, none⟩ = some (.int .i64 (qs.length : Int)) := by
        unfold World.cell?
        rw [h3]
        simpa using hcc _ _ _ _
      have hf3 : W3.frozen? ⟨p, 32, none⟩ = false := by simp [World.frozen?, h3]
      have h4 := set_list (k := 32) (x := .int .i64 ((qs.length + 1 : Nat) : Int)) h3
      rw [cellsB_push qs ⟨x, a2, c2⟩ h8'] at h4
      have k4 := k3.setCell (p := ⟨p, 32, none⟩) (.inl (by simp)) (.int .i64 ((qs.length + 1 : Nat) : Int))
      have kA : Kept [p] w _ := (HKD.out.trans k2 (by simp)).mono (by simp) |>.trans k4 (by simp)
      have hB4 : IsB (W3.setCell ⟨p, 32, none⟩ (.int .i64 ((qs.length + 1 : Nat) : Int))) p (qs ++ [⟨x, a2, c2⟩]) := by
        refine ⟨h4, by simp; omega, fun q hq => ?_, fun q hq => ?_⟩
        · rcases List.mem_append.1 hq with h | h
          · exact hB3.good q h
          · simp at h; subst h; exact ⟨hok, HF.out⟩
        · have : OwnsJ w2 q.sl q.x.args := by
            rcases List.mem_append.1 hq with h | h
            · exact hB3.args q h
            · simp at h; subst h; exact hO2
          exact this.kept k4 (fun g hg hm => by simp at hm; subst hm; exact ownsJ_ne this hB3.box (by decide) hg)
      have hfr : Fresh w (.slice a2 x.args.length c2) := fun g hg => by have := hf2 g hg; have := HKD.out.size; omega
      have HR := Hid.mk (H3.out _ a2 c2 HF.out H8.out hB4 kA hfr)
      rw [e3]
      clear hB4 kA hfr k4 h4 h3 hcc hB3 e3 k3 hz3
      go_wp2_with fail
      exact HR.out
end
end Go.Proofs.YtngnenbidpojeaaGreatDoor
/-
  First of an inbox.
-/
namespace Go.Proofs.YtngnenbidpojeaaGreatDoor
open Go.RowKit
set_option linter.unusedVariables false
/-- The first one, or none. -/
def hdL (l : List Lt) : Lt := l.headD ⟨[], 0, 0, []⟩
/-- A letter in new memory, and whether there is one. -/
def LetB (w : World) (x : Lt) (b : Bool) (e : Ending) (w' : World) : Prop :=
  ∃ a c, e = .returned (.tuple #[Lv x a c, .bool b]) ∧ OwnsJ w' (.slice a x.args.length c) x.args ∧ Kept [] w w' ∧ Fresh w (.slice a x.args.length c)
section
variable {w : World} {p : Nat} {qs : List Lq}
set_option maxRecDepth 100000 in
set_option maxHeartbeats 1000000 in
theorem first22_none {p' : Option Addr} (hL : ∀ W, Kept [] w W → Calls Tryz.prog 16 #[.pointer p'] W fun e w' => e = .returned (.int .i64 0) ∧ W = w') : Calls Tryz.prog 33 #[.pointer p'] w fun e w' => LetB w ⟨[], 0, 0, []⟩ false e w' := by
  have HL := Hid.mk hL
  clear hL
  go_enter Tryz.func33, Tryz.ntmps33
  go_wp2_with fail
  obtain ⟨W0, e0, k0, hz0, hb0⟩ := box1 w (.cells #[.string { data := #[] }, .int .u64 0, .int .i64 0, .slice none 0 0] 81)
  rw [e0]
  clear e0
  refine (HL.out _ k0).mono ?_
  rintro e w1 ⟨rfl, rfl⟩
  obtain ⟨c0, c1, c2, c3⟩ := cells4 hb0
  obtain ⟨f0, f1, f2, f3⟩ := free4 hb0
  go_wp2_with fail
  obtain ⟨W8, e8, k8, h8, -⟩ := put4 hb0 (.string { data := #[] }) (.int .u64 0) (.int .i64 0) (.slice none 0 0)
  rw [e8]
  refine bodyPost_ret (results_cell_row2 (p := 2) (u := 3) (ty := 81) rfl _ _ w.heap.size 81 _ (0, 0) _ rfl h8 Tryz.underlying81 rfl (by kernel_rfl) _ rfl) rfl ?_
  exact ⟨none, 0, rfl, OwnsJ.nil _, k0.trans k8 (by simp), fresh_nil w 0⟩
set_option maxRecDepth 100000 in
set_option maxHeartbeats 1000000 in
theorem first22_some {q : Lq} {t : List Lq} (hB : IsB w p (q :: t)) : Calls Tryz.prog 33 #[.pointer (some ⟨p, 0, none⟩)] w fun e w' => LetB w q.x true e w' := by
  have HB := Hid.mk hB
  clear hB
  go_enter Tryz.func33, Tryz.ntmps33
  go_wp2_with fail
  obtain ⟨W0, e0, k0, hz0, hb0⟩ := box1 w (.cells #[.string { data := #[] }, .int .u64 0, .int .i64 0, .slice none 0 0] 81)
  rw [e0]
  clear e0
  have hB0 := HB.out.kept0 k0
  refine (len21 hB0).mono ?_
  rintro e w1 ⟨rfl, rfl⟩
  have hn : (((q :: t).length : Int) == 0) = false := by simp; omega
  generalize ((q :: t).length : Int) = N at hn
  obtain ⟨d0, d1, d2, d3⟩ := hB0.at (j := 0) rfl
  rw [Nat.zero_mul] at *
  have hfm := formed_le (hB0.good q (by simp)).2
  have HC := Hid.mk (copy17 q.x q.ad q.cap (hB0.args q (by simp)).reads (by omega) (by omega))
  clear hB0
  go_wp2_with fail
  refine HC.out.mono ?_
  rintro e w2 ⟨a2, c2, rfl, hO2, k2, hf2⟩
  have hb2 := k2.keeps hb0 (by simp)
  obtain ⟨c0, c1, c2', c3⟩ := cells4 hb2
  obtain ⟨f0, f1, f2, f3⟩ := free4 hb2
  clear d0 d1 d2 d3
  go_wp2_with fail
  obtain ⟨W8, e8, k8, h8, -⟩ := put4 hb2 (Sv q.x.fr) (.int .u64 (q.x.ser : Int)) (.int .i64 q.x.kind) (.slice a2 q.x.args.length c2)
  rw [e8]
  refine bodyPost_ret (results_cell_row2 (p := 2) (u := 3) (ty := 81) rfl _ _ w.heap.size 81 _ (0, 0) _ rfl h8 Tryz.underlying81 rfl (by kernel_rfl) _ rfl) rfl ?_
  exact ⟨a2, c2, rfl, hO2.kept k8 (fun g hg hm => by simp at hm; subst hm; exact ownsJ_ne hO2 hb2 (by decide) hg), (k0.trans k2 (by simp)).trans k8 (by simp), fun g hg => by have := hf2 g hg; have := k0.size; omega⟩
theorem first22 (hB : IsB w p qs) : Calls Tryz.prog 33 #[.pointer (some ⟨p, 0, none⟩)] w fun e w' => LetB w (hdL (qs.map (·.x))) (!qs.isEmpty) e w' := by
  cases qs with
  | nil => exact first22_none (fun W k => len21 (hB.kept0 k))
  | cons q t => exact first22_some hB
end
end Go.Proofs.YtngnenbidpojeaaGreatDoor
