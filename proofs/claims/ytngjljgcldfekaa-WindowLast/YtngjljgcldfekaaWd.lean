/-
  Clients and their serials; a window's cells; a window in memory.
-/
import Derived.Test.YtngjljgcldfekaaUb
namespace Go.Proofs.Ytngjljgcldfekaa
open Go.RowKit
set_option linter.unusedVariables false
/-- A client and its serials, the elder first. -/
structure Cl where
  c : Nat
  s : List Nat
instance : Inhabited Cl := ⟨⟨0, []⟩⟩
/-- The four places of a record. -/
def padS (s : List Nat) : List Nat := s ++ List.replicate (4 - s.length) 0
/-- A record's cells. -/
def cellsC (x : Cl) : List Value := Uv x.c :: ((padS x.s).map Uv ++ [.int .i64 (x.s.length : Int)])
def CC (L : List Cl) : List (List Value) := L.map cellsC
theorem CC_length (L : List Cl) : (CC L).length = L.length := by simp [CC]
theorem CC_append (a b : List Cl) : CC (a ++ b) = CC a ++ CC b := by simp [CC]
theorem cellsC_length {x : Cl} (h : x.s.length ≤ 4) : (cellsC x).length = 6 := by simp [cellsC, padS]; omega
theorem cellsC_one (x : Cl) : ∀ u ∈ cellsC x, u.oneCell' = true := fun u hu => by
  rcases List.mem_cons.1 hu with rfl | hu
  · rfl
  · rcases List.mem_append.1 hu with hu | hu
    · obtain ⟨n, _, rfl⟩ := List.mem_map.1 hu; rfl
    · simp at hu; subst hu; rfl
/-- Four serials at most. -/
def Four (L : List Cl) : Prop := ∀ x ∈ L, x.s.length ≤ 4
theorem CC_wide {L : List Cl} (h : Four L) : Wide 6 (CC L) := fun r hr => by
  obtain ⟨x, hx, rfl⟩ := List.mem_map.1 hr
  exact ⟨cellsC_length (h x hx), cellsC_one x⟩
/-- Nobody. -/
def zc : Cl := ⟨0, []⟩
/-- The 64 places. -/
def padC (L : List Cl) : List Cl := L ++ List.replicate (64 - L.length) zc
/-- A window's cells. -/
def cellsW (L : List Cl) : List Value := (CC (padC L)).flatten ++ [.int .i64 (L.length : Int)]
structure Fit (L : List Cl) : Prop where
  len : L.length ≤ 64
  four : Four L
theorem Four.pad {L : List Cl} (h : Four L) : Four (padC L) := fun x hx => by
  rcases List.mem_append.1 hx with hx | hx
  · exact h x hx
  · rw [List.eq_of_mem_replicate hx]; simp [zc]
theorem padC_length {L : List Cl} (h : L.length ≤ 64) : (padC L).length = 64 := by simp [padC]; omega
theorem flatW_length {L : List Cl} (h : Fit L) : (CC (padC L)).flatten.length = 384 := by rw [(CC_wide h.four.pad).flat_length, CC_length, padC_length h.len]
theorem cellsW_length {L : List Cl} (h : Fit L) : (cellsW L).length = 385 := by simp only [cellsW, List.length_append, flatW_length h]; rfl
theorem cellsW_count {L : List Cl} (h : Fit L) : (cellsW L)[384]? = some (.int .i64 (L.length : Int)) := by
  rw [cellsW, List.getElem?_append_right (by rw [flatW_length h]; omega), flatW_length h]
  rfl
theorem cellsW_at {L : List Cl} (h : Fit L) {j : Nat} {x : Cl} (hj : (padC L)[j]? = some x) {i : Nat} {v : Value} (hi : (cellsC x)[i]? = some v) : (cellsW L)[j * 6 + i]? = some v := by
  have h1 : j < 64 := by
    have := (List.getElem?_eq_some_iff.1 hj).1
    rw [padC_length h.len] at this; exact this
  have hx : x.s.length ≤ 4 := h.four.pad x (List.mem_of_getElem? hj)
  have h2 : i < 6 := by have := (List.getElem?_eq_some_iff.1 hi).1; rw [cellsC_length hx] at this; exact this
  rw [cellsW, List.getElem?_append_left (by rw [flatW_length h]; omega)]
  exact (CC_wide h.four.pad).at j (cellsC x) (by simp [CC, hj]) i v hi
theorem padC_get {L : List Cl} {j : Nat} {x : Cl} (hj : L[j]? = some x) : (padC L)[j]? = some x := by
  rw [padC, List.getElem?_append_left (List.getElem?_eq_some_iff.1 hj).1]; exact hj
/-- One more place is counted. -/
theorem cellsW_more {L : List Cl} (h : L.length < 64) (hf : Four L) : (cellsW L).set 384 (.int .i64 ((L.length + 1 : Nat) : Int)) = cellsW (L ++ [zc]) := by
  have hp : padC (L ++ [zc]) = padC L := by
    unfold padC
    rw [List.append_assoc, List.length_append, show 64 - L.length = (64 - (L.length + 1)) + 1 by omega, List.replicate_succ]
    rfl
  have hl := flatW_length (L := L) ⟨by omega, hf⟩
  rw [cellsW, cellsW, hp, List.set_append_right _ _ (by rw [hl]; omega), hl, List.length_append]
  rfl
/-- Cells that are stored one behind the other. -/
def sets (l : List Value) (o : Nat) : List Value → List Value
  | [] => l
  | v :: vs => sets (l.set o v) (o + 1) vs
theorem sets_eq (vs : List Value) : ∀ (l : List Value) (o : Nat), o + vs.length ≤ l.length → sets l o vs = l.take o ++ vs ++ l.drop (o + vs.length) := by
  induction vs with
  | nil => intro l o h; simp [sets]
  | cons v vs ih =>
    intro l o h
    rw [List.length_cons] at h
    rw [sets, ih _ _ (by rw [List.length_set]; omega), List.drop_set_of_lt (by omega), List.length_cons, show o + 1 + vs.length = o + (vs.length + 1) by omega]
    have : (l.set o v).take (o + 1) = l.take o ++ [v] := by
      rw [List.take_add_one, List.take_set_of_le (Nat.le_refl _), List.getElem?_set_self (by omega)]
      rfl
    rw [this]
    simp
theorem flat_cut {k : Nat} {A : List (List Value)} (B : List (List Value)) (h : Wide k A) : (A ++ B).flatten.take (A.length * k) = A.flatten ∧ (A ++ B).flatten.drop (A.length * k) = B.flatten := by
  rw [List.flatten_append, ← h.flat_length]
  simp
/-- A list of which the one at a place is gone, and another stands last. -/
def mv (M : List Cl) (j : Nat) (y : Cl) : List Cl := M.take j ++ M.drop (j + 1) ++ [y]
theorem mv_length {M : List Cl} {j : Nat} (h : j < M.length) (y : Cl) : (mv M j y).length = M.length := by simp [mv]; omega
theorem Four.mv {M : List Cl} (h : Four M) (j : Nat) {y : Cl} (hy : y.s.length ≤ 4) : Four (mv M j y) := fun x hx => by
  rcases List.mem_append.1 hx with hx | hx
  · rcases List.mem_append.1 hx with hx | hx
    · exact h x (List.mem_of_mem_take hx)
    · exact h x (List.mem_of_mem_drop hx)
  · simp at hx; subst hx; exact hy
/-- What is behind is moved down, and the last place is stored into. -/
theorem cellsW_mv {M : List Cl} (h : Fit M) {j : Nat} (hj : j < M.length) {y : Cl} (hy : y.s.length ≤ 4) :
    sets ((cellsW M).take (j * 6) ++ (CC (M.drop (j + 1))).flatten ++ (cellsW M).drop (j * 6 + (CC (M.drop (j + 1))).flatten.length)) ((M.length - 1) * 6) (cellsC y) = cellsW (mv M j y) := by
  obtain ⟨Z, hZ⟩ : ∃ Z, Z = (CC (List.replicate (64 - M.length) zc)).flatten ++ [Value.int .i64 (M.length : Int)] := ⟨_, rfl⟩
  have hA : Four (M.take j) := fun x hx => h.four x (List.mem_of_mem_take hx)
  have hC : Four (M.drop (j + 1)) := fun x hx => h.four x (List.mem_of_mem_drop hx)
  have la : (CC (M.take j)).flatten.length = j * 6 := by rw [(CC_wide hA).flat_length, CC_length, List.length_take]; congr 1; omega
  have lc : (CC (M.drop (j + 1))).flatten.length = (M.length - 1 - j) * 6 := by rw [(CC_wide hC).flat_length, CC_length, List.length_drop]; congr 1; omega
  have lb : (cellsC M[j]).length = 6 := cellsC_length (h.four _ (List.getElem_mem hj))
  have e1 : cellsW M = (CC (M.take j)).flatten ++ (cellsC M[j] ++ ((CC (M.drop (j + 1))).flatten ++ Z)) := by
    have hM : M = M.take j ++ (M[j] :: M.drop (j + 1)) := by rw [← List.drop_eq_getElem_cons hj, List.take_append_drop]
    have : cellsW M = (CC M).flatten ++ Z := by rw [hZ, cellsW, padC, CC_append, List.flatten_append, List.append_assoc]
    rw [this]
    conv => lhs; rw [hM]
    rw [CC_append, List.flatten_append, List.append_assoc]
    congr 1
    show (cellsC M[j] ++ (CC (M.drop (j + 1))).flatten) ++ Z = _
    rw [List.append_assoc]
  have e2 : cellsW (mv M j y) = (CC (M.take j)).flatten ++ ((CC (M.drop (j + 1))).flatten ++ (cellsC y ++ Z)) := by
    rw [cellsW, padC, mv_length hj, mv, CC_append, CC_append, CC_append, List.flatten_append, List.flatten_append, List.flatten_append, hZ]
    have : (CC [y]).flatten = cellsC y := by simp [CC]
    rw [this]
    simp only [List.append_assoc]
  rw [e2, e1]
  generalize (CC (M.take j)).flatten = A at la
  generalize (CC (M.drop (j + 1))).flatten = C at lc
  generalize hB : cellsC M[j] = B at lb
  rw [← la, List.take_append_of_le_length (Nat.le_refl _), List.take_length, List.drop_append, List.drop_eq_nil_of_le (Nat.le_add_right _ _), Nat.add_sub_cancel_left, List.nil_append]
  have hlz : Z.length = (64 - M.length) * 6 + 1 := by
    rw [hZ, List.length_append, (CC_wide (L := List.replicate (64 - M.length) zc) (fun x hx => by rw [List.eq_of_mem_replicate hx]; simp [zc])).flat_length, CC_length, List.length_replicate]
    rfl
  have hn := h.len
  have o1 : (M.length - 1) * 6 = (A ++ C).length := by rw [List.length_append, la, lc]; omega
  rw [sets_eq _ _ _ (by simp only [o1, List.length_append, List.length_drop, lb, lc, la, cellsC_length hy]; omega), o1, List.take_append_of_le_length (Nat.le_refl _), List.take_length, List.drop_append, List.drop_eq_nil_of_le (Nat.le_add_right _ _), Nat.add_sub_cancel_left, List.nil_append, cellsC_length hy, List.drop_drop]
  have : (B ++ (C ++ Z)).drop (C.length + 6) = Z := by
    rw [show C.length + 6 = (B ++ C).length by rw [List.length_append, lb]; omega, ← List.append_assoc, List.drop_append, List.drop_length, Nat.sub_self]
    rfl
  rw [this]
  simp only [List.append_assoc]
/-- A record that is stored into. -/
theorem cellsW_split {M : List Cl} (h : Fit M) {j : Nat} (hj : j < M.length) : ∃ A Z, A.length = j * 6 ∧ cellsW M = A ++ (cellsC M[j] ++ Z) ∧ ∀ y : Cl, cellsW (M.set j y) = A ++ (cellsC y ++ Z) := by
  have hA : Four (M.take j) := fun x hx => h.four x (List.mem_of_mem_take hx)
  have la : (CC (M.take j)).flatten.length = j * 6 := by rw [(CC_wide hA).flat_length, CC_length, List.length_take]; congr 1; omega
  have key : ∀ y : Cl, cellsW (M.set j y) = (CC (M.take j)).flatten ++ (cellsC y ++ ((CC (M.drop (j + 1))).flatten ++ ((CC (List.replicate (64 - M.length) zc)).flatten ++ [Value.int .i64 (M.length : Int)]))) := fun y => by
    have hM : M.set j y = M.take j ++ (y :: M.drop (j + 1)) := List.set_eq_take_append_cons_drop.trans (if_pos hj)
    rw [cellsW, padC, List.length_set, hM, CC_append, CC_append, List.flatten_append, List.flatten_append, List.append_assoc, List.append_assoc]
    congr 1
    show (cellsC y ++ (CC (M.drop (j + 1))).flatten) ++ _ = _
    rw [List.append_assoc]
  refine ⟨_, _, la, ?_, key⟩
  have := key M[j]
  rwa [List.set_getElem_self] at this
/-- The window at block p remembers L. -/
structure IsWd (w : World) (p : Nat) (L : List Cl) : Prop where
  box : w.heap[p]? = some (.cells (cellsW L).toArray 36 (0, 0))
  fit : Fit L
section
variable {w w' : World} {p : Nat} {L : List Cl}
theorem IsWd.lt (h : IsWd w p L) : p < w.heap.size := lt_of_block h.box
theorem IsWd.kept {S : List Nat} (h : IsWd w p L) (k : Kept S w w') (hp : p ∉ S) : IsWd w' p L := ⟨k.keeps h.box hp, h.fit⟩
theorem IsWd.kept0 (h : IsWd w p L) (k : Kept [] w w') : IsWd w' p L := h.kept k (by simp)
theorem IsWd.cell (h : IsWd w p L) {i : Nat} {v : Value} (hi : (cellsW L)[i]? = some v) : w.cell? ⟨p, i, none⟩ = some v := by
  unfold World.cell?
  rw [h.box]
  simpa using hi
theorem IsWd.free (h : IsWd w p L) (i : Nat) : w.frozen? ⟨p, i, none⟩ = false := by simp [World.frozen?, h.box]
theorem IsWd.count (h : IsWd w p L) : w.cell? ⟨p, 384, none⟩ = some (.int .i64 (L.length : Int)) := h.cell (cellsW_count h.fit)
/-- The record at a place of a block. -/
def RecAt (w : World) (p o : Nat) (x : Cl) : Prop := ∀ i v, (cellsC x)[i]? = some v → w.cell? ⟨p, o + i, none⟩ = some v
theorem IsWd.rc (h : IsWd w p L) {j : Nat} {x : Cl} (hj : L[j]? = some x) : RecAt w p (j * 6) x := fun i v hi => h.cell (cellsW_at h.fit (padC_get hj) hi)
theorem RecAt.kept0 {o : Nat} {x : Cl} (h : RecAt w p o x) (k : Kept [] w w') : RecAt w' p o x := fun i v hi => k.cell_eq (h i v hi)
theorem RecAt.client {o : Nat} {x : Cl} (h : RecAt w p o x) : w.cell? ⟨p, o, none⟩ = some (Uv x.c) := h 0 _ rfl
theorem RecAt.count {o : Nat} {x : Cl} (h : RecAt w p o x) (hx : x.s.length ≤ 4) : w.cell? ⟨p, o + 5, none⟩ = some (.int .i64 (x.s.length : Int)) := by
  refine h 5 _ ?_
  have : ((padS x.s).map Uv).length = 4 := by simp [padS]; omega
  rw [cellsC, List.getElem?_cons_succ, List.getElem?_append_right (by omega), this]
  rfl
/-- Its serials, as a row. -/
theorem RecAt.row {o : Nat} {x : Cl} (h : RecAt w p o x) (hx : x.s.length ≤ 4) : ReadsU w (.slice (some ⟨p, o + 1, none⟩) x.s.length 4) x.s := by
  refine ⟨some ⟨p, o + 1, none⟩, 4, by rw [CU_length], by rw [CU_length]; exact hx, by unfold maxLen; omega, by simp, fun _ => ⟨p, o + 1, rfl, fun j r hr i v hv => ?_⟩⟩
  rw [CU, List.getElem?_map, Option.map_eq_some_iff] at hr
  obtain ⟨n, hn, rfl⟩ := hr
  have hi : i = 0 := by
    have := (List.getElem?_eq_some_iff.1 hv).1
    simp at this
    exact this
  subst hi
  simp at hv
  subst hv
  rw [Nat.mul_one, Nat.add_zero, Nat.add_assoc, Nat.add_comm 1 j]
  refine h (j + 1) _ ?_
  have hl := (List.getElem?_eq_some_iff.1 hn).1
  rw [cellsC, List.getElem?_cons_succ, List.getElem?_append_left (by simp [padS]; omega), List.getElem?_map, padS, List.getElem?_append_left hl, hn]
  rfl
end
end Go.Proofs.Ytngjljgcldfekaa
