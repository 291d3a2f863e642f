/-
  A queue of reminders in memory: a block of 64 places and how many there are.
-/
import Derived.Test.YtmjbkhcfdojpeaaRs
import Derived.Test.YtmjbkhcfdojpeaaZr
namespace Go.Proofs.Ytmjbkhcfdojpeaa
set_option maxRecDepth 100000
open Go.RowKit
set_option linter.unusedVariables false
/-- A text as a value. -/
abbrev Sv (l : List UInt8) : Value := .string ⟨l.toArray⟩
/-- An integer as a value. -/
abbrev Iv (n : Int) : Value := .int .i64 n
/-- A number as a value. -/
abbrev Uv (n : Nat) : Value := .int .u64 (n : Int)
/-- A reminder's cells. -/
def cellsR (r : Rm) : List Value := [Sv r.ac, Sv r.nm, Iv r.due, Iv r.per, Iv r.kind]
/-- A reminder as a value. -/
abbrev Rv (r : Rm) : Value := .agg #[Sv r.ac, Sv r.nm, Iv r.due, Iv r.per, Iv r.kind]
def CR (l : List Rm) : List (List Value) := l.map cellsR
theorem CR_length (l : List Rm) : (CR l).length = l.length := by simp [CR]
theorem CR_append (a b : List Rm) : CR (a ++ b) = CR a ++ CR b := by simp [CR]
theorem CR_wide (l : List Rm) : Wide 5 (CR l) := fun r hr => by
  obtain ⟨x, _, rfl⟩ := List.mem_map.1 hr
  refine ⟨rfl, fun v hv => ?_⟩
  simp [cellsR] at hv
  rcases hv with rfl | rfl | rfl | rfl | rfl <;> rfl
theorem CR_flat (l : List Rm) : (CR l).flatten.length = l.length * 5 := by rw [(CR_wide _).flat_length, CR_length]
theorem cellsR_length (r : Rm) : (cellsR r).length = 5 := rfl
theorem cellsR_lt {y : Rm} {i : Nat} {v : Value} (h : (cellsR y)[i]? = some v) : i < 5 := (List.getElem?_eq_some_iff.1 h).1
theorem get_lt {α : Type} {l : List α} {j : Nat} {y : α} (h : l[j]? = some y) : j < l.length := (List.getElem?_eq_some_iff.1 h).1
/-- No reminder. -/
def zr : Rm := ⟨[], [], 0, 0, 0⟩
/-- The 64 places. -/
def padR (Q : List Rm) : List Rm := Q ++ List.replicate (64 - Q.length) zr
/-- A queue's cells. -/
def cellsN (Q : List Rm) : List Value := (CR (padR Q)).flatten ++ [Iv (Q.length : Int)]
theorem padR_length {Q : List Rm} (h : Q.length ≤ 64) : (padR Q).length = 64 := by simp [padR]; omega
theorem flatN_length {Q : List Rm} (h : Q.length ≤ 64) : (CR (padR Q)).flatten.length = 320 := by rw [CR_flat, padR_length h]
theorem cellsN_length {Q : List Rm} (h : Q.length ≤ 64) : (cellsN Q).length = 321 := by simp only [cellsN, List.length_append, flatN_length h]; rfl
theorem cellsN_count {Q : List Rm} (h : Q.length ≤ 64) : (cellsN Q)[320]? = some (Iv (Q.length : Int)) := by
  rw [cellsN, List.getElem?_append_right (by rw [flatN_length h]; omega), flatN_length h]
  rfl
theorem cellsN_at {Q : List Rm} (h : Q.length ≤ 64) {j : Nat} {x : Rm} (hj : (padR Q)[j]? = some x) {i : Nat} {v : Value} (hi : (cellsR x)[i]? = some v) : (cellsN Q)[j * 5 + i]? = some v := by
  have h1 := get_lt hj
  rw [padR_length h] at h1
  have h2 := cellsR_lt hi
  rw [cellsN, List.getElem?_append_left (by rw [flatN_length h]; omega)]
  exact (CR_wide _).at j (cellsR x) (by simp [CR, hj]) i v hi
theorem padR_get {Q : List Rm} {j : Nat} {x : Rm} (hj : Q[j]? = some x) : (padR Q)[j]? = some x := by
  rw [padR, List.getElem?_append_left (get_lt hj)]; exact hj
/-- Cells that are stored one behind the other. -/
def sets (l : List Value) (o : Nat) : List Value → List Value
  | [] => l
  | v :: vs => sets (l.set o v) (o + 1) vs
theorem sets_eq (vs : List Value) : ∀ (l : List Value) (o : Nat), o + vs.length ≤ l.length → sets l o vs = l.take o ++ vs ++ l.drop (o + vs.length) := by
  induction vs with
  | nil => intro l o h; simp [sets]
  | cons v vs ih =>
    intro l o h
    rw [List.length_cons] at h
    rw [sets, ih _ _ (by rw [List.length_set]; omega), List.drop_set_of_lt (by omega), List.length_cons, show o + 1 + vs.length = o + (vs.length + 1) by omega]
    have : (l.set o v).take (o + 1) = l.take o ++ [v] := by
      rw [List.take_add_one, List.take_set_of_le (Nat.le_refl _), List.getElem?_set_self (by omega)]
      rfl
    rw [this]
    simp
/-- What lies over a part. -/
theorem over_parts (A X B Z : List Value) (h : X.length = B.length) : (A ++ (X ++ Z)).take A.length ++ B ++ (A ++ (X ++ Z)).drop (A.length + B.length) = A ++ (B ++ Z) := by
  rw [List.take_append_of_le_length (Nat.le_refl _), List.take_length, List.drop_append, List.drop_eq_nil_of_le (Nat.le_add_right _ _), Nat.add_sub_cancel_left, List.nil_append, ← h, List.drop_append, List.drop_length, Nat.sub_self]
  simp
theorem sets_parts (A X B Z : List Value) (o : Nat) (ho : o = A.length) (h : X.length = B.length) : sets (A ++ (X ++ Z)) o B = A ++ (B ++ Z) := by
  subst ho
  rw [sets_eq _ _ _ (by simp only [List.length_append]; omega)]
  exact over_parts A X B Z h
theorem set_last (A : List Value) (x y : Value) (o : Nat) (ho : o = A.length) : (A ++ [x]).set o y = A ++ [y] := by
  subst ho
  rw [List.set_append_right _ _ (Nat.le_refl _), Nat.sub_self]
  rfl
/-- A place is made, and one is laid there. -/
theorem cellsN_ins {Q : List Rm} (h : Q.length < 64) {P : Nat} (hP : P ≤ Q.length) (r : Rm) :
    (sets ((cellsN Q).take ((P + 1) * 5) ++ (CR (Q.drop P)).flatten ++ (cellsN Q).drop ((P + 1) * 5 + (CR (Q.drop P)).flatten.length)) (P * 5) (cellsR r)).set 320 (Iv ((Q.length + 1 : Nat) : Int)) = cellsN (Q.take P ++ r :: Q.drop P) := by
  obtain ⟨Z, hZ⟩ : ∃ Z, Z = (CR (List.replicate (64 - (Q.length + 1)) zr)).flatten := ⟨_, rfl⟩
  have lz : Z.length = (64 - (Q.length + 1)) * 5 := by rw [hZ, CR_flat, List.length_replicate]
  have la : (CR (Q.take P)).flatten.length = P * 5 := by rw [CR_flat, List.length_take]; congr 1; omega
  have lb : (CR (Q.drop P)).flatten.length = (Q.length - P) * 5 := by rw [CR_flat, List.length_drop]
  have e1 : cellsN Q = (CR (Q.take P)).flatten ++ ((CR (Q.drop P)).flatten ++ (cellsR zr ++ (Z ++ [Iv (Q.length : Int)]))) := by
    have e : padR Q = Q.take P ++ (Q.drop P ++ (zr :: List.replicate (64 - (Q.length + 1)) zr)) := by
      rw [padR, show 64 - Q.length = (64 - (Q.length + 1)) + 1 by omega, List.replicate_succ, ← List.append_assoc, List.take_append_drop]
    rw [cellsN, e, CR_append, CR_append, hZ]
    simp [CR]
  have e2 : cellsN (Q.take P ++ r :: Q.drop P) = (CR (Q.take P)).flatten ++ (cellsR r ++ ((CR (Q.drop P)).flatten ++ (Z ++ [Iv ((Q.length + 1 : Nat) : Int)]))) := by
    have hl : (Q.take P ++ r :: Q.drop P).length = Q.length + 1 := by rw [List.length_append, List.length_cons, List.length_take, List.length_drop]; omega
    rw [cellsN, padR, hl, CR_append, CR_append, hZ]
    simp [CR]
  rw [e2, e1]
  generalize (CR (Q.take P)).flatten = A at la
  generalize (CR (Q.drop P)).flatten = B at lb
  -- what is read at the place that is made
  obtain ⟨X, Y, hXY, hX, hY⟩ : ∃ X Y, B ++ (cellsR zr ++ (Z ++ [Iv (Q.length : Int)])) = X ++ (Y ++ (Z ++ [Iv (Q.length : Int)])) ∧ X.length = 5 ∧ Y.length = B.length := by
    refine ⟨(B ++ cellsR zr).take 5, (B ++ cellsR zr).drop 5, ?_, ?_, ?_⟩
    · rw [← List.append_assoc, ← List.append_assoc ((B ++ cellsR zr).take 5), List.take_append_drop]
    · rw [List.length_take, List.length_append, cellsR_length]; omega
    · rw [List.length_drop, List.length_append, cellsR_length]; omega
  rw [hXY]
  have hAX : (P + 1) * 5 = (A ++ X).length := by rw [List.length_append, la, hX]; omega
  have e3 : A ++ (X ++ (Y ++ (Z ++ [Iv (Q.length : Int)]))) = (A ++ X) ++ (Y ++ (Z ++ [Iv (Q.length : Int)])) := by simp only [List.append_assoc]
  rw [hAX]
  conv => lhs; rw [e3]
  rw [over_parts (A ++ X) Y B (Z ++ [Iv (Q.length : Int)]) hY, List.append_assoc, sets_parts A X (cellsR r) _ _ (by omega) (by rw [hX]; rfl)]
  have e4 : A ++ (cellsR r ++ (B ++ (Z ++ [Iv (Q.length : Int)]))) = (A ++ (cellsR r ++ (B ++ Z))) ++ [Iv (Q.length : Int)] := by simp only [List.append_assoc]
  rw [e4, set_last _ _ _ _ (by simp only [List.length_append, la, lb, lz, cellsR_length]; omega)]
  simp only [List.append_assoc]
/-- One is taken away, and the last place is as it was. -/
theorem cellsN_del {Q : List Rm} (h : Q.length ≤ 64) {j : Nat} (hj : j < Q.length) :
    sets ((((cellsN Q).take (j * 5) ++ (CR (Q.drop (j + 1))).flatten ++ (cellsN Q).drop (j * 5 + (CR (Q.drop (j + 1))).flatten.length))).set 320 (Iv ((Q.length - 1 : Nat) : Int))) ((Q.length - 1) * 5) (cellsR zr) = cellsN (Q.take j ++ Q.drop (j + 1)) := by
  obtain ⟨Z, hZ⟩ : ∃ Z, Z = (CR (List.replicate (64 - Q.length) zr)).flatten := ⟨_, rfl⟩
  have lz : Z.length = (64 - Q.length) * 5 := by rw [hZ, CR_flat, List.length_replicate]
  have la : (CR (Q.take j)).flatten.length = j * 5 := by rw [CR_flat, List.length_take]; congr 1; omega
  have lb : (CR (Q.drop (j + 1))).flatten.length = (Q.length - (j + 1)) * 5 := by rw [CR_flat, List.length_drop]
  have e1 : cellsN Q = (CR (Q.take j)).flatten ++ (cellsR Q[j] ++ ((CR (Q.drop (j + 1))).flatten ++ (Z ++ [Iv (Q.length : Int)]))) := by
    have e : padR Q = Q.take j ++ (Q[j] :: (Q.drop (j + 1) ++ List.replicate (64 - Q.length) zr)) := by
      rw [padR, ← List.cons_append, ← List.drop_eq_getElem_cons hj, ← List.append_assoc, List.take_append_drop]
    rw [cellsN, e, CR_append, hZ]
    simp [CR]
  have e2 : cellsN (Q.take j ++ Q.drop (j + 1)) = (CR (Q.take j)).flatten ++ ((CR (Q.drop (j + 1))).flatten ++ (cellsR zr ++ (Z ++ [Iv ((Q.length - 1 : Nat) : Int)]))) := by
    have hl : (Q.take j ++ Q.drop (j + 1)).length = Q.length - 1 := by rw [List.length_append, List.length_take, List.length_drop]; omega
    rw [cellsN, padR, hl, show 64 - (Q.length - 1) = (64 - Q.length) + 1 by omega, List.replicate_succ, CR_append, CR_append, hZ]
    simp [CR]
  rw [e2, e1]
  generalize (CR (Q.take j)).flatten = A at la
  generalize (CR (Q.drop (j + 1))).flatten = B at lb
  obtain ⟨X, hX⟩ : ∃ X, X = cellsR Q[j] := ⟨_, rfl⟩
  rw [← hX]
  have lx : X.length = 5 := by rw [hX]; rfl
  clear hX
  obtain ⟨Y, V, hYV, hY, hV⟩ : ∃ Y V, X ++ (B ++ (Z ++ [Iv (Q.length : Int)])) = Y ++ (V ++ (Z ++ [Iv (Q.length : Int)])) ∧ Y.length = B.length ∧ V.length = 5 := by
    refine ⟨(X ++ B).take B.length, (X ++ B).drop B.length, ?_, ?_, ?_⟩
    · rw [← List.append_assoc, ← List.append_assoc ((X ++ B).take B.length), List.take_append_drop]
    · rw [List.length_take, List.length_append]; omega
    · rw [List.length_drop, List.length_append]; omega
  rw [hYV, ← la, over_parts A Y B _ hY]
  have e4 : A ++ (B ++ (V ++ (Z ++ [Iv (Q.length : Int)]))) = (A ++ (B ++ (V ++ Z))) ++ [Iv (Q.length : Int)] := by simp only [List.append_assoc]
  rw [e4, set_last _ _ _ _ (by simp only [List.length_append, la, lb, lz, hV]; omega)]
  have e5 : (A ++ (B ++ (V ++ Z))) ++ [Iv ((Q.length - 1 : Nat) : Int)] = (A ++ B) ++ (V ++ (Z ++ [Iv ((Q.length - 1 : Nat) : Int)])) := by simp only [List.append_assoc]
  rw [e5, sets_parts (A ++ B) V (cellsR zr) _ _ (by rw [List.length_append, la, lb]; omega) (by rw [hV]; rfl)]
  simp only [List.append_assoc]
/-- The queue at block p has the reminders Q. -/
structure IsQ (w : World) (p : Nat) (Q : List Rm) : Prop where
  box : w.heap[p]? = some (.cells (cellsN Q).toArray 30 (0, 0))
  len : Q.length ≤ 64
section
variable {w w' : World} {p : Nat} {Q : List Rm}
theorem IsQ.lt (h : IsQ w p Q) : p < w.heap.size := lt_of_block h.box
theorem IsQ.kept {S : List Nat} (h : IsQ w p Q) (k : Kept S w w') (hp : p ∉ S) : IsQ w' p Q := ⟨k.keeps h.box hp, h.len⟩
theorem IsQ.kept0 (h : IsQ w p Q) (k : Kept [] w w') : IsQ w' p Q := h.kept k (by simp)
theorem cell_list {cs : List Value} {t : TypeId} (hb : w.heap[p]? = some (.cells cs.toArray t (0, 0))) {i : Nat} {v : Value} (hi : cs[i]? = some v) : w.cell? ⟨p, i, none⟩ = some v := by
  unfold World.cell?
  rw [hb]
  simpa using hi
theorem IsQ.cell (h : IsQ w p Q) {i : Nat} {v : Value} (hi : (cellsN Q)[i]? = some v) : w.cell? ⟨p, i, none⟩ = some v := cell_list h.box hi
theorem IsQ.free (h : IsQ w p Q) (i : Nat) : w.frozen? ⟨p, i, none⟩ = false := by simp [World.frozen?, h.box]
theorem IsQ.count (h : IsQ w p Q) : w.cell? ⟨p, 320, none⟩ = some (Iv (Q.length : Int)) := h.cell (cellsN_count h.len)
theorem IsQ.at (h : IsQ w p Q) {j : Nat} {x : Rm} (hj : Q[j]? = some x) : w.cell? ⟨p, j * 5, none⟩ = some (Sv x.ac) ∧ w.cell? ⟨p, j * 5 + 1, none⟩ = some (Sv x.nm) ∧ w.cell? ⟨p, j * 5 + 2, none⟩ = some (Iv x.due) ∧ w.cell? ⟨p, j * 5 + 3, none⟩ = some (Iv x.per) ∧ w.cell? ⟨p, j * 5 + 4, none⟩ = some (Iv x.kind) :=
  ⟨h.cell (cellsN_at h.len (padR_get hj) (i := 0) rfl), h.cell (cellsN_at h.len (padR_get hj) (i := 1) rfl), h.cell (cellsN_at h.len (padR_get hj) (i := 2) rfl), h.cell (cellsN_at h.len (padR_get hj) (i := 3) rfl), h.cell (cellsN_at h.len (padR_get hj) (i := 4) rfl)⟩
theorem IsQ.any (h : IsQ w p Q) {i : Nat} (hi : i < 321) : ∃ v, w.cell? ⟨p, i, none⟩ = some v :=
  ⟨_, h.cell (List.getElem?_eq_getElem (by rw [cellsN_length h.len]; exact hi))⟩
/-- Its reminders as a row. -/
theorem IsQ.row (h : IsQ w p Q) : ReadsR 5 w (.slice (some ⟨p, 0, none⟩) Q.length 64) (CR Q) := by
  refine ⟨some ⟨p, 0, none⟩, 64, by rw [CR_length], by rw [CR_length]; exact h.len, by unfold maxLen; omega, by simp, fun _ => ⟨p, 0, rfl, fun j r hr i x hx => ?_⟩⟩
  rw [CR, List.getElem?_map, Option.map_eq_some_iff] at hr
  obtain ⟨q, hq, rfl⟩ := hr
  rw [Nat.zero_add]
  exact h.cell (cellsN_at h.len (padR_get hq) hx)
theorem IsQ.new (w : World) : IsQ (w.alloc (.cells (cellsN []).toArray 30)) w.heap.size [] := ⟨heap_alloc_new w _, by simp⟩
end
/-- Five cells of a long block that are stored whole. -/
theorem putR {w : World} {p o : Nat} {L : List Value} {t : TypeId} (h : w.heap[p]? = some (.cells L.toArray t (0, 0))) (x0 x1 x2 x3 x4 : Value) : ∃ W, ((((w.setCell ⟨p, o, none⟩ x0).setCell ⟨p, o + 1, none⟩ x1).setCell ⟨p, o + 2, none⟩ x2).setCell ⟨p, o + 3, none⟩ x3).setCell ⟨p, o + 4, none⟩ x4 = W ∧ Kept [p] w W ∧ W.heap[p]? = some (.cells (sets L o [x0, x1, x2, x3, x4]).toArray t (0, 0)) ∧ W.heap.size = w.heap.size :=
  ⟨_, rfl, (((((Kept.refl [p] w).setCell (p := ⟨p, o, none⟩) (.inl (by simp)) x0).setCell (p := ⟨p, o + 1, none⟩) (.inl (by simp)) x1).setCell (p := ⟨p, o + 2, none⟩) (.inl (by simp)) x2).setCell (p := ⟨p, o + 3, none⟩) (.inl (by simp)) x3).setCell (p := ⟨p, o + 4, none⟩) (.inl (by simp)) x4, set_list (set_list (set_list (set_list (set_list h)))), by simp⟩
end Go.Proofs.Ytmjbkhcfdojpeaa
