import Derived.Deep.MidRow
import Derived.Deep.WholeRow
import Derived.Test.YtngnenbidpojeaaGreatDoorT03
import Derived.Test.YtngnenbidpojeaaGreatDoorT06
/-
 A journal in memory: eight registers, sixteen places for events, how many there are, the version.
-/
namespace Go.Proofs.YtngnenbidpojeaaGreatDoor
set_option maxRecDepth 100000
open Go.RowKit
set_option linter.unusedVariables false
abbrev Iv (n : Int) : Value := .int .i64 n
abbrev Ep := Int × Int
def cellsE (e : Ep) : List Value := [Iv e.1, Iv e.2]
abbrev Vv (e : Ep) : Value := .agg #[Iv e.1, Iv e.2]
def CE (l : List Ep) : List (List Value) := l.map cellsE
def BI (l : List Int) : List Value := l.map fun n => Iv n
theorem CE_length (l : List Ep) : (CE l).length = l.length := by simp [CE]
theorem CE_append (a b : List Ep) : CE (a ++ b) = CE a ++ CE b := by simp [CE]
theorem CE_wide (l : List Ep) : Wide 2 (CE l) := fun r hr => by
 obtain ⟨x, _, rfl⟩ := List.mem_map.1 hr
 refine ⟨rfl, fun v hv => ?_⟩
 simp [cellsE] at hv
 rcases hv with rfl | rfl <;> rfl
theorem CE_flat (l : List Ep) : (CE l).flatten.length = l.length * 2 := by rw [(CE_wide _).flat_length, CE_length]
theorem cellsE_length (e : Ep) : (cellsE e).length = 2 := rfl
theorem BI_length (l : List Int) : (BI l).length = l.length := by simp [BI]
theorem BI_one (l : List Int) : ∀ v ∈ BI l, v.oneCell' = true := fun v hv => by
 obtain ⟨x, _, rfl⟩ := List.mem_map.1 hv
 rfl
theorem BI_get {l : List Int} {i : Nat} {x : Int} (h : l[i]? = some x) : (BI l)[i]? = some (Iv x) := by simp [BI, h]
theorem BI_set (l : List Int) (i : Nat) (x : Int) : (BI l).set i (Iv x) = BI (l.set i x) := by simp [BI, List.map_set]
def sets (l : List Value) (o : Nat) : List Value → List Value
 | [] => l
 | v :: vs => sets (l.set o v) (o + 1) vs
theorem sets_eq (vs : List Value) : ∀ (l : List Value) (o : Nat), o + vs.length ≤ l.length → sets l o vs = l.take o ++ vs ++ l.drop (o + vs.length) := by
 induction vs with
 | nil => intro l o h; simp [sets]
 | cons v vs ih =>
  intro l o h
  rw [List.length_cons] at h
  rw [sets, ih _ _ (by rw [List.length_set]; omega), List.drop_set_of_lt (by omega), List.length_cons, show o + 1 + vs.length = o + (vs.length + 1) by omega]
  have : (l.set o v).take (o + 1) = l.take o ++ [v] := by
   rw [List.take_add_one, List.take_set_of_le (Nat.le_refl _), List.getElem?_set_self (by omega)]
   rfl
  rw [this]
  simp
theorem over_parts (A X B Z : List Value) (h : X.length = B.length) : (A ++ (X ++ Z)).take A.length ++ B ++ (A ++ (X ++ Z)).drop (A.length + B.length) = A ++ (B ++ Z) := by
 rw [List.take_append_of_le_length (Nat.le_refl _), List.take_length, List.drop_append, List.drop_eq_nil_of_le (Nat.le_add_right _ _), Nat.add_sub_cancel_left, List.nil_append, ← h, List.drop_append, List.drop_length, Nat.sub_self]
 simp
theorem sets_parts (A X B Z : List Value) (o : Nat) (ho : o = A.length) (h : X.length = B.length) : sets (A ++ (X ++ Z)) o B = A ++ (B ++ Z) := by
 subst ho
 rw [sets_eq _ _ _ (by simp only [List.length_append]; omega)]
 exact over_parts A X B Z h
theorem cell_list {w : World} {p : Nat} {cs : List Value} {t : TypeId} (hb : w.heap[p]? = some (.cells cs.toArray t (0, 0))) {i : Nat} {v : Value} (hi : cs[i]? = some v) : w.cell? ⟨p, i, none⟩ = some v := by
 unfold World.cell?
 rw [hb]
 simpa using hi
theorem setCells_list {p : Nat} {t : TypeId} (vs : List Value) : ∀ {w : World} {o : Nat} {L : List Value}, w.heap[p]? = some (.cells L.toArray t (0, 0)) → (w.setCells p o vs).heap[p]? = some (.cells (sets L o vs).toArray t (0, 0)) := by
 induction vs with
 | nil => intro w o L h; exact h
 | cons v vs ih => intro w o L h; rw [World.setCells]; exact ih (set_list h)
theorem Kept.setCells {S : List Nat} {a : World} {p : Nat} (hp : p ∈ S ∨ a.heap.size ≤ p) (vs : List Value) : ∀ {w : World} (h : Kept S a w) (o : Nat), Kept S a (w.setCells p o vs) := by
 induction vs with
 | nil => intro w h o; exact h
 | cons v vs ih => intro w h o; rw [World.setCells]; exact ih (h.setCell (p := ⟨p, o, none⟩) hp v) (o + 1)
theorem size_setCells {p : Nat} (vs : List Value) : ∀ (w : World) (o : Nat), (w.setCells p o vs).heap.size = w.heap.size := by
 induction vs with
 | nil => intro w o; rfl
 | cons v vs ih => intro w o; rw [World.setCells, ih]; simp
def cellsP (A : List Int) (E : List Ep) (n : Int) (v : Nat) : List Value := BI A ++ ((CE E).flatten ++ [Iv n, Uv v])
section
variable {A : List Int} {E : List Ep} {n : Int} {v : Nat}
theorem cellsP_length (ha : A.length = 8) (he : E.length = 16) : (cellsP A E n v).length = 42 := by simp only [cellsP, List.length_append, BI_length, CE_flat, ha, he]; rfl
theorem cellsP_A {i : Nat} {x : Int} (h : A[i]? = some x) : (cellsP A E n v)[i]? = some (Iv x) := by
 rw [cellsP, List.getElem?_append_left (by rw [BI_length]; exact get_lt h)]
 exact BI_get h
theorem cellsP_E (ha : A.length = 8) (he : E.length = 16) {k : Nat} {e : Ep} (h : E[k]? = some e) {i : Nat} {x : Value} (hx : (cellsE e)[i]? = some x) : (cellsP A E n v)[8 + k * 2 + i]? = some x := by
 have h1 := get_lt h
 have h2 := get_lt hx
 rw [cellsE_length] at h2
 rw [cellsP, List.getElem?_append_right (by rw [BI_length]; omega), BI_length, ha, show 8 + k * 2 + i - 8 = k * 2 + i by omega, List.getElem?_append_left (by rw [CE_flat]; omega)]
 exact (CE_wide _).at k (cellsE e) (by simp [CE, h]) i x hx
theorem cellsP_n (ha : A.length = 8) (he : E.length = 16) : (cellsP A E n v)[40]? = some (Iv n) := by
 rw [cellsP, List.getElem?_append_right (by rw [BI_length]; omega), BI_length, ha, List.getElem?_append_right (by rw [CE_flat]; omega), CE_flat, he]
 rfl
theorem cellsP_v (ha : A.length = 8) (he : E.length = 16) : (cellsP A E n v)[41]? = some (Uv v) := by
 rw [cellsP, List.getElem?_append_right (by rw [BI_length]; omega), BI_length, ha, List.getElem?_append_right (by rw [CE_flat]; omega), CE_flat, he]
 rfl
theorem cellsP_setA {i : Nat} (hi : i < A.length) (x : Int) : (cellsP A E n v).set i (Iv x) = cellsP (A.set i x) E n v := by
 rw [cellsP, List.set_append_left _ _ (by rw [BI_length]; exact hi), BI_set]
 rfl
theorem cellsP_setn (ha : A.length = 8) (he : E.length = 16) (m : Int) : (cellsP A E n v).set 40 (Iv m) = cellsP A E m v := by
 rw [cellsP, List.set_append_right _ _ (by rw [BI_length]; omega), BI_length, ha, List.set_append_right _ _ (by rw [CE_flat]; omega), CE_flat, he]
 rfl
theorem cellsP_setv (ha : A.length = 8) (he : E.length = 16) (u : Nat) : (cellsP A E n v).set 41 (Uv u) = cellsP A E n u := by
 rw [cellsP, List.set_append_right _ _ (by rw [BI_length]; omega), BI_length, ha, List.set_append_right _ _ (by rw [CE_flat]; omega), CE_flat, he]
 rfl
theorem cellsP_setE (ha : A.length = 8) {k : Nat} (hk : k < E.length) (e : Ep) : sets (cellsP A E n v) (8 + k * 2) (cellsE e) = cellsP A (E.set k e) n v := by
 have e1 : cellsP A E n v = (BI A ++ (CE (E.take k)).flatten) ++ (cellsE E[k] ++ ((CE (E.drop (k + 1))).flatten ++ [Iv n, Uv v])) := by
  have e2 : E = E.take k ++ E[k] :: E.drop (k + 1) := by rw [← List.drop_eq_getElem_cons hk, List.take_append_drop]
  conv => lhs; rw [e2]
  simp only [cellsP, CE, List.map_append, List.map_cons, List.flatten_append, List.flatten_cons, List.append_assoc]
 rw [e1, sets_parts _ (cellsE E[k]) (cellsE e) _ _ (by rw [List.length_append, BI_length, CE_flat, List.length_take]; omega) rfl, List.set_eq_take_append_cons_drop, if_pos hk, cellsP, CE_append]
 simp [CE]
theorem cellsP_mv (ha : A.length = 8) (he : E.length = 16) : ∃ x, (cellsP A E n v).take 8 ++ (CE (E.drop 1)).flatten ++ (cellsP A E n v).drop (8 + (CE (E.drop 1)).flatten.length) = cellsP A (E.drop 1 ++ [x]) n v := by
 have hk : 15 < E.length := by omega
 refine ⟨E[15], ?_⟩
 have e1 : cellsP A E n v = BI A ++ ((CE (E.take 15)).flatten ++ (cellsE E[15] ++ [Iv n, Uv v])) := by
  have e2 : E = E.take 15 ++ [E[15]] := by
   have : E.drop 16 = [] := List.drop_eq_nil_of_le (by omega)
   conv => lhs; rw [← List.take_append_drop 15 E, List.drop_eq_getElem_cons hk, this]
  conv => lhs; rw [e2]
  rw [cellsP, CE_append]
  simp [CE]
 have e3 := over_parts (BI A) (CE (E.take 15)).flatten (CE (E.drop 1)).flatten (cellsE E[15] ++ [Iv n, Uv v]) (by rw [CE_flat, CE_flat, List.length_take, List.length_drop]; omega)
 rw [BI_length, ha] at e3
 conv => lhs; rw [e1]
 rw [e3, cellsP, CE_append]
 simp [CE]
end
structure IsP (w : World) (p : Nat) (A : List Int) (E : List Ep) (n : Int) (v : Nat) : Prop where
 box : w.heap[p]? = some (.cells (cellsP A E n v).toArray 177 (0, 0))
 a8 : A.length = 8
 e16 : E.length = 16
section
variable {w w' : World} {p : Nat} {A : List Int} {E : List Ep} {n : Int} {v : Nat}
theorem IsP.lt (h : IsP w p A E n v) : p < w.heap.size := lt_of_block h.box
theorem IsP.kept {S : List Nat} (h : IsP w p A E n v) (k : Kept S w w') (hp : p ∉ S) : IsP w' p A E n v := ⟨k.keeps h.box hp, h.a8, h.e16⟩
theorem IsP.kept0 (h : IsP w p A E n v) (k : Kept [] w w') : IsP w' p A E n v := h.kept k (by simp)
theorem IsP.cell (h : IsP w p A E n v) {i : Nat} {x : Value} (hi : (cellsP A E n v)[i]? = some x) : w.cell? ⟨p, i, none⟩ = some x := cell_list h.box hi
theorem IsP.free (h : IsP w p A E n v) (i : Nat) : w.frozen? ⟨p, i, none⟩ = false := by simp [World.frozen?, h.box]
theorem IsP.cellA (h : IsP w p A E n v) {i : Nat} {x : Int} (hi : A[i]? = some x) : w.cell? ⟨p, i, none⟩ = some (Iv x) := h.cell (cellsP_A hi)
theorem IsP.cellE (h : IsP w p A E n v) {k : Nat} {e : Ep} (hk : E[k]? = some e) : w.cell? ⟨p, 8 + k * 2, none⟩ = some (Iv e.1) ∧ w.cell? ⟨p, 8 + k * 2 + 1, none⟩ = some (Iv e.2) :=
 ⟨h.cell (cellsP_E h.a8 h.e16 hk (i := 0) rfl), h.cell (cellsP_E h.a8 h.e16 hk (i := 1) rfl)⟩
theorem IsP.count (h : IsP w p A E n v) : w.cell? ⟨p, 40, none⟩ = some (Iv n) := h.cell (cellsP_n h.a8 h.e16)
theorem IsP.ver (h : IsP w p A E n v) : w.cell? ⟨p, 41, none⟩ = some (Uv v) := h.cell (cellsP_v h.a8 h.e16)
theorem IsP.rangeA (h : IsP w p A E n v) : w.rangeAt p 0 (BI A) := fun j x hx => by
 rw [BI, List.getElem?_map, Option.map_eq_some_iff] at hx
 obtain ⟨y, hy, rfl⟩ := hx
 rw [Nat.zero_add]
 exact h.cellA hy
theorem IsP.setA (h : IsP w p A E n v) {i : Nat} (hi : i < 8) (x : Int) : IsP (w.setCell ⟨p, i, none⟩ (Iv x)) p (A.set i x) E n v :=
 ⟨by rw [set_list h.box, cellsP_setA (by rw [h.a8]; exact hi)], by rw [List.length_set]; exact h.a8, h.e16⟩
theorem IsP.setn (h : IsP w p A E n v) (m : Int) : IsP (w.setCell ⟨p, 40, none⟩ (Iv m)) p A E m v := ⟨by rw [set_list h.box, cellsP_setn h.a8 h.e16], h.a8, h.e16⟩
theorem IsP.setv (h : IsP w p A E n v) (u : Nat) : IsP (w.setCell ⟨p, 41, none⟩ (Uv u)) p A E n u := ⟨by rw [set_list h.box, cellsP_setv h.a8 h.e16], h.a8, h.e16⟩
theorem IsP.setE (h : IsP w p A E n v) {k : Nat} (hk : k < 16) (e : Ep) : IsP ((w.setCell ⟨p, 8 + k * 2, none⟩ (Iv e.1)).setCell ⟨p, 8 + k * 2 + 1, none⟩ (Iv e.2)) p A (E.set k e) n v :=
 ⟨by rw [set_list (set_list h.box)]; exact congrArg (fun l => some (Obj.cells (List.toArray l) 177 (0, 0))) (cellsP_setE h.a8 (by rw [h.e16]; exact hk) e), h.a8, by rw [List.length_set]; exact h.e16⟩
theorem IsP.mv (h : IsP w p A E n v) : ∃ r W', (Builtin.copy_ #[90, 90] 3 #[.slice (some ⟨p, 8, none⟩) 16 16, .slice (some ⟨p, 10, none⟩) 15 15]).run Tryz.prog w = .ok r W' ∧ Kept [p] w W' ∧ ∃ x, IsP W' p A (E.drop 1 ++ [x]) n v := by
 have hf : (CE (E.drop 1)).flatten.length = 30 := by rw [CE_flat, List.length_drop, h.e16]
 have hrun := run_copy_rowK (P := Tryz.prog) w 90 90 3 92 2 p 8 16 16 ⟨p, 10, none⟩ 15 15 _ 177 (CE (E.drop 1)).flatten Tryz.underlying90 (by kernel_rfl) h.box (by rw [hf]; rfl) (fun j x hx => by
  obtain ⟨m, r, k, hm, hk, rfl⟩ := (CE_wide _).inv j x hx
  rw [CE, List.getElem?_map, Option.map_eq_some_iff] at hm
  obtain ⟨y, hy, rfl⟩ := hm
  rw [List.getElem?_drop] at hy
  rw [add_at, show 10 + (m * 2 + k) = 8 + (1 + m) * 2 + k by omega]
  exact h.cell (cellsP_E h.a8 h.e16 hy hk)) (by rw [hf, List.size_toArray, cellsP_length h.a8 h.e16]; omega) (CE_wide _).one
 refine ⟨_, _, hrun, (Kept.refl [p] w).setRow (.inl (by simp)) _, ?_⟩
 obtain ⟨x, hx⟩ := cellsP_mv (n := n) (v := v) h.a8 h.e16
 refine ⟨x, ?_, h.a8, by rw [List.length_append, List.length_drop, h.e16]; rfl⟩
 rw [← hx]
 exact setRow_heap w p (cellsP A E n v).toArray ((cellsP A E n v).toArray.toList.take 8 ++ (CE (E.drop 1)).flatten ++ (cellsP A E n v).toArray.toList.drop (8 + (CE (E.drop 1)).flatten.length)).toArray 177 (0, 0) h.box
end
def ofE (e : Ev) : Ep := ((e.r : Int), e.v)
def toE (e : Ep) : Ev := ⟨e.1.toNat, e.2⟩
theorem ofE_toE {e : Ep} (h : 0 ≤ e.1) : ofE (toE e) = e := by
 obtain ⟨a, b⟩ := e
 dsimp only at h
 simp only [toE, ofE]
 rw [Int.toNat_of_nonneg h]
def padE (ev : List Ev) : List Ep := ev.map ofE ++ List.replicate (16 - ev.length) (0, 0)
theorem padE_get {ev : List Ev} {k : Nat} {e : Ev} (h : ev[k]? = some e) : (padE ev)[k]? = some (ofE e) := by
 rw [padE, List.getElem?_append_left (by rw [List.length_map]; exact get_lt h)]
 simp [h]
theorem padE_full {ev : List Ev} (h : ev.length = 16) : padE ev = ev.map ofE := by simp [padE, h]
theorem padE_more {ev : List Ev} (h : ev.length < 16) (e : Ev) : (padE ev).set ev.length (ofE e) = padE (ev ++ [e]) := by
 have e1 : padE ev = ev.map ofE ++ (0, 0) :: List.replicate (16 - (ev.length + 1)) (0, 0) := by rw [padE, show 16 - ev.length = (16 - (ev.length + 1)) + 1 by omega, List.replicate_succ]
 rw [e1, List.set_append_right _ _ (by rw [List.length_map]; exact Nat.le_refl _), List.length_map, Nat.sub_self, List.set_cons_zero, padE, List.length_append, List.map_append]
 simp
structure IsJ (w : World) (p : Nat) (j : Jn) : Prop where
 isP : IsP w p j.base (padE j.ev) (j.ev.length : Int) j.ver
 len : j.ev.length ≤ 16
section
variable {w w' : World} {p : Nat} {j : Jn}
theorem IsJ.lt (h : IsJ w p j) : p < w.heap.size := h.isP.lt
theorem IsJ.kept {S : List Nat} (h : IsJ w p j) (k : Kept S w w') (hp : p ∉ S) : IsJ w' p j := ⟨h.isP.kept k hp, h.len⟩
theorem IsJ.kept0 (h : IsJ w p j) (k : Kept [] w w') : IsJ w' p j := h.kept k (by simp)
theorem IsJ.at (h : IsJ w p j) {k : Nat} {e : Ev} (hk : j.ev[k]? = some e) : w.cell? ⟨p, 8 + k * 2, none⟩ = some (Iv (e.r : Int)) ∧ w.cell? ⟨p, 8 + k * 2 + 1, none⟩ = some (Iv e.v) := h.isP.cellE (padE_get hk)
theorem IsJ.new (w : World) : IsJ (w.alloc (.cells (cellsP newJ.base (padE []) 0 0).toArray 177)) w.heap.size newJ := ⟨⟨heap_alloc_new w _, rfl, rfl⟩, by simp [newJ]⟩
end
def pushJ (j : Jn) (e : Ev) : Jn := ⟨(addE j e).base, (addE j e).ev, j.ver⟩
theorem pushJ_few {j : Jn} (h : j.ev.length < 16) (e : Ev) : pushJ j e = ⟨j.base, j.ev ++ [e], j.ver⟩ := by
 unfold pushJ addE
 rw [if_neg (by omega)]
theorem pushJ_full {j : Jn} {x : Ev} {t : List Ev} (hx : j.ev = x :: t) (h : j.ev.length = 16) (e : Ev) : pushJ j e = ⟨doE j.base x, t ++ [e], j.ver⟩ := by
 unfold pushJ addE
 rw [if_pos (by omega)]
 simp [dropJ, hx]
def pushA (j : Jn) (l : List Ev) : Jn := l.foldl pushJ j
theorem addE_ver (b : List Int) (ev : List Ev) (v u : Nat) (e : Ev) : (addE ⟨b, ev, v⟩ e).base = (addE ⟨b, ev, u⟩ e).base ∧ (addE ⟨b, ev, v⟩ e).ev = (addE ⟨b, ev, u⟩ e).ev := by
 unfold addE
 dsimp only
 split
 ·cases ev <;> exact ⟨rfl, rfl⟩
 ·exact ⟨rfl, rfl⟩
theorem addA_ver (l : List Ev) : ∀ (b : List Int) (ev : List Ev) (v u : Nat), (addA ⟨b, ev, v⟩ l).base = (addA ⟨b, ev, u⟩ l).base ∧ (addA ⟨b, ev, v⟩ l).ev = (addA ⟨b, ev, u⟩ l).ev := by
 induction l with
 | nil => intro b ev v u; exact ⟨rfl, rfl⟩
 | cons e l ih =>
  intro b ev v u
  obtain ⟨h1, h2⟩ := addE_ver b ev v u e
  have h3 := ih (addE ⟨b, ev, v⟩ e).base (addE ⟨b, ev, v⟩ e).ev (addE ⟨b, ev, v⟩ e).ver (addE ⟨b, ev, u⟩ e).ver
  have e1 : addA ⟨b, ev, v⟩ (e :: l) = addA (addE ⟨b, ev, v⟩ e) l := rfl
  have e2 : addA ⟨b, ev, u⟩ (e :: l) = addA (addE ⟨b, ev, u⟩ e) l := rfl
  rw [e1, e2]
  refine ⟨h3.1.trans ?_, h3.2.trans ?_⟩ <;> rw [h1, h2]
theorem pushA_eq (l : List Ev) : ∀ j, pushA j l = ⟨(addA j l).base, (addA j l).ev, j.ver⟩ := by
 induction l with
 | nil => intro j; rfl
 | cons e l ih =>
  intro j
  have e1 : pushA j (e :: l) = pushA (pushJ j e) l := rfl
  have e2 : addA j (e :: l) = addA (addE j e) l := rfl
  rw [e1, e2, ih]
  have h := addA_ver l (addE j e).base (addE j e).ev j.ver (addE j e).ver
  unfold pushJ
  dsimp only
  rw [h.1, h.2]
theorem addA_eq (j : Jn) (l : List Ev) : addA j l = ⟨(pushA j l).base, (pushA j l).ev, j.ver + l.length⟩ := by
 rw [pushA_eq]
 dsimp only
 rw [← ver_addA]
def RegJ (j : Jn) : Prop := ∀ e ∈ j.ev, e.r ≤ 7
theorem RegJ.push {j : Jn} (h : RegJ j) {e : Ev} (he : e.r ≤ 7) : RegJ (pushJ j e) := by
 intro x hx
 have hm : ∀ x ∈ j.ev ++ [e], x.r ≤ 7 := fun x hx => by
  rcases List.mem_append.1 hx with h1 | h1
  ·exact h x h1
  ·simp at h1; subst h1; exact he
 unfold pushJ addE at hx
 dsimp only at hx
 split at hx
 ·unfold dropJ at hx
  dsimp only at hx
  split at hx
  ·exact hm x hx
  ·rename_i y t hy
   exact hm x (by rw [hy]; exact List.mem_cons_of_mem y hx)
 ·exact hm x hx
theorem pushJ_len (j : Jn) (e : Ev) (h : j.ev.length ≤ 16) : (pushJ j e).ev.length ≤ 16 := by
 rcases Nat.lt_or_ge j.ev.length 16 with h1 | h1
 ·rw [pushJ_few h1]; simp; omega
 ·cases hx : j.ev with
  | nil => rw [hx] at h1; simp at h1
  | cons x t =>
   rw [pushJ_full hx (by omega)]
   rw [hx] at h h1
   simp at h h1 ⊢
   omega
theorem GoodJ.reg {j : Jn} (h : GoodJ j) : RegJ j := fun e he => (h.ev e he).1
theorem wpList_load_run {w : World} {ops : Array Oper} {rest : List Oper} {o : Oper} {a : Act} {Q : Exit → Act → World → Prop} (t : TypeId) (x : Operand)
  (hop : o.op = .load t x) (hg : o.guard = none) (vx : Value) (hx : a.eval x = vx) (v : Value) (hrun : (Instr.loadAt t vx).run Tryz.prog w = .ok v w)
  (h : wpList Tryz.prog ops Q rest (a.put o.dst v) w) : wpList Tryz.prog ops Q (o :: rest) a w := by
 refine wpList_plain hg fun K hK' => ?_
 unfold Oper.wp execOp
 simp only [hop, hx, Sem.run_bind, Sem.run_pure, Result.andThen_ok, hrun]
 exact hK' _ _ h
theorem wpList_alloc_run {w : World} {ops : Array Oper} {rest : List Oper} {o : Oper} {a : Act} {Q : Exit → Act → World → Prop} (t : TypeId)
  (hop : o.op = .alloc t) (hg : o.guard = none) (v : Value) (w' : World) (hrun : (Instr.alloc t true (.tuple #[])).run Tryz.prog w = .ok v w')
  (h : wpList Tryz.prog ops Q rest (a.put o.dst v) w') : wpList Tryz.prog ops Q (o :: rest) a w := by
 refine wpList_plain hg fun K hK' => ?_
 unfold Oper.wp execOp
 simp only [hop, Sem.run_bind, Sem.run_pure, Result.andThen_ok, hrun]
 exact hK' _ _ h
theorem wpList_store_run {w : World} {ops : Array Oper} {rest : List Oper} {o : Oper} {a : Act} {Q : Exit → Act → World → Prop} (t : TypeId) (x y : Operand)
  (hop : o.op = .store t x y) (hg : o.guard = none) (vx vy : Value) (hx : a.eval x = vx) (hy : a.eval y = vy) (w' : World) (hrun : (Instr.storeAt t vx vy).run Tryz.prog w = .ok () w')
  (h : wpList Tryz.prog ops Q rest (a.put o.dst undef) w') : wpList Tryz.prog ops Q (o :: rest) a w := by
 refine wpList_plain hg fun K hK' => ?_
 unfold Oper.wp execOp
 simp only [hop, hx, hy, Sem.run_bind, Sem.run_pure, Result.andThen_ok, hrun]
 exact hK' _ _ h
abbrev z8 : List Int := [0, 0, 0, 0, 0, 0, 0, 0]
theorem alloc29 (W : World) : (Instr.alloc 84 true (.tuple #[])).run Tryz.prog W = .ok (.pointer (some ⟨W.heap.size, 0, none⟩)) (W.alloc (.cells (BI z8).toArray 84)) := by kernel_rfl
theorem size29 : (Tryz.prog.info? 84).map (·.size) = some 8 := by kernel_rfl
structure IsA (w : World) (g : Nat) (A : List Int) : Prop where
 box : w.heap[g]? = some (.cells (BI A).toArray 84 (0, 0))
 a8 : A.length = 8
section
variable {w w' : World} {g : Nat} {A : List Int}
theorem IsA.kept0 (h : IsA w g A) (k : Kept [] w w') : IsA w' g A := ⟨k.keeps h.box (by simp), h.a8⟩
theorem IsA.new (w : World) : IsA (w.alloc (.cells (BI z8).toArray 84)) w.heap.size z8 := ⟨heap_alloc_new w _, rfl⟩
theorem IsA.cell (h : IsA w g A) {i : Nat} {x : Int} (hi : A[i]? = some x) : w.cell? ⟨g, i, none⟩ = some (Iv x) := cell_list h.box (BI_get hi)
theorem IsA.free (h : IsA w g A) (i : Nat) : w.frozen? ⟨g, i, none⟩ = false := by simp [World.frozen?, h.box]
theorem IsA.set (h : IsA w g A) {i : Nat} (hi : i < 8) (x : Int) : IsA (w.setCell ⟨g, i, none⟩ (Iv x)) g (A.set i x) := ⟨by rw [set_list h.box, BI_set], by rw [List.length_set]; exact h.a8⟩
theorem IsA.load (h : IsA w g A) : (Instr.loadAt 84 (.pointer (some ⟨g, 0, none⟩))).run Tryz.prog w = .ok (.agg (BI A).toArray) w :=
 run_loadAt_mid w g 0 84 _ _ (fun j v hv => by rw [Nat.zero_add]; exact cell_list h.box hv) Tryz.underlying84 rfl (by rw [BI_length, h.a8]; exact size29)
theorem IsA.store (h : IsA w g A) {B : List Int} (hB : B.length = 8) : ∃ W, (Instr.storeAt 84 (.pointer (some ⟨g, 0, none⟩)) (.agg (BI B).toArray)).run Tryz.prog w = .ok () W ∧ IsA W g B ∧ Kept [g] w W ∧ W.heap.size = w.heap.size := by
 refine ⟨_, run_storeAt_mid w g 0 84 (BI B).toArray (fun j hj => ?_) (by rw [List.size_toArray, BI_length, hB]; exact size29) (all_oneCell_toArray (BI_one B)), ⟨?_, hB⟩, Kept.setCells (.inl (by simp)) _ (Kept.refl [g] w) 0, size_setCells _ _ _⟩
 ·rw [List.size_toArray, BI_length, hB] at hj
  refine ⟨?_, h.free _⟩
  rw [h.cell (List.getElem?_eq_getElem (i := 0 + j) (by rw [h.a8]; omega))]
  rfl
 ·rw [setCells_list _ h.box]
  have := sets_parts [] (BI A) (BI B) [] 0 rfl (by rw [BI_length, BI_length, h.a8, hB])
  simp only [List.nil_append, List.append_nil] at this
  rw [this]
end
theorem result29 {fn : Func} {u : Tmp} (h : fn.results = #[.cell u 84]) (tmps : Array Value) (w : World) (g : Nat) (A : List Int) (hp : tmps.getD u undef = .pointer (some ⟨g, 0, none⟩)) (hA : IsA w g A) : (results fn tmps).run Tryz.prog w = .ok (.agg (BI A).toArray) w :=
 results_cell_row h tmps w g 84 _ (0, 0) _ hp hA.box Tryz.underlying84 rfl (by rw [List.size_toArray, BI_length, hA.a8]; exact size29)
section
variable {w : World} {p : Nat} {j : Jn}
theorem new11_J : Calls Tryz.prog 57 #[] w fun e w' => ∃ p, e = .returned (.pointer (some ⟨p, 0, none⟩)) ∧ IsJ w' p newJ ∧ Kept [] w w' ∧ w.heap.size ≤ p := by
 go_enter Tryz.func57, Tryz.ntmps57
 go_wp2_with fail
 go_ret
 exact ⟨_, rfl, IsJ.new w, (Kept.refl [] w).alloc _, Nat.le_refl _⟩
theorem version19 {A : List Int} {E : List Ep} {n : Int} {v : Nat} (h : IsP w p A E n v) : Calls Tryz.prog 52 #[.pointer (some ⟨p, 0, none⟩)] w fun e w' => e = .returned (Uv v) ∧ w = w' := by
 have hv := h.ver
 clear h
 go_enter Tryz.func52, Tryz.ntmps52
 go_wp2_with fail
 go_ret
 exact ⟨rfl, rfl⟩
set_option maxHeartbeats 1000000 in
theorem base25 {A : List Int} {E : List Ep} {n : Int} {v : Nat} (h : IsP w p A E n v) : Calls Tryz.prog 53 #[.pointer (some ⟨p, 0, none⟩)] w fun e w' => e = .returned (.agg (BI A).toArray) ∧ Kept [] w w' := by
 have hal := alloc29 w
 have hA0 := IsA.new w
 have k0 := (Kept.refl [] w).alloc (.cells (BI z8).toArray 84)
 generalize w.alloc (.cells (BI z8).toArray 84) = W0 at *
 have h0 := h.kept0 k0
 have hld : (Instr.loadAt 84 (.pointer (some ⟨p, 0, none⟩))).run Tryz.prog W0 = .ok (.agg (BI A).toArray) W0 := run_loadAt_mid W0 p 0 84 _ _ h0.rangeA Tryz.underlying84 rfl (by rw [BI_length, h.a8]; exact size29)
 obtain ⟨W1, hst, hA1, k1, -⟩ := hA0.store h.a8
 have HR : Hid (IsA W1 w.heap.size A ∧ Kept [] w W1) := ⟨hA1, k0.trans k1 (by simp)⟩
 clear h h0 hA0 hA1 k0 k1
 go_enter Tryz.func53, Tryz.ntmps53
 go_wp2_with (first | (refine wpList_alloc_run 84 rfl rfl _ _ hal ?_) | (refine wpList_load_run 84 (.tmp 8) rfl rfl _ rfl _ hld ?_) | (refine wpList_store_run 84 (.tmp 2) (.tmp 9) rfl rfl _ _ rfl rfl _ hst ?_))
 exact bodyPost_ret (result29 (u := 2) rfl _ _ w.heap.size A rfl HR.out.1) rfl ⟨rfl, HR.out.2⟩
theorem doA_take {b : List Int} {l : List Ev} {k : Nat} {y : Ev} (hy : l[k]? = some y) : doA b (l.take (k + 1)) = (doA b (l.take k)).set y.r y.v := by
 rw [List.take_add_one, hy, doA_append]
 rfl
theorem slice35h (p n : Nat) (h2 : n ≤ 16) (W : World) : (Instr.sliceAt 175 (.pointer (some ⟨p, 8, none⟩)) none (some (.int .i64 (n : Int))) none).run Tryz.prog W = .ok (.slice (some ⟨p, 8, none⟩) n 16) W := by
 have ht : Tryz.prog.underlying 175 = some (.array (Tryz.prog.arrayLen 175) (Tryz.prog.elem 175)) := by kernel_rfl
 have h64 : Tryz.prog.arrayLen 175 = 16 := by kernel_rfl
 have he : Tryz.prog.elem 175 = 92 := by kernel_rfl
 have hs : (sizeOf 92).run Tryz.prog W = .ok 2 W := by kernel_rfl
 rw [run_sliceAt_array_h W 175 ⟨p, 8, none⟩ ht .i64 (n : Int) (by omega) (by rw [h64]; omega), he, hs, Result.andThen_ok, slicedAt, h64, add_at]
 rfl
set_option maxHeartbeats 1000000 in
theorem behind31 (h : IsJ w p j) : Calls Tryz.prog 76 #[.pointer (some ⟨p, 0, none⟩)] w fun e w' => e = .returned (.slice (some ⟨p, 8, none⟩) j.ev.length 16) ∧ Kept [] w w' := by
 have S0 : w.drew.cell? ⟨p, 40, none⟩ = some (Iv (j.ev.length : Int)) := h.isP.count
 have hsl : ∀ W : World, (Instr.sliceAt 175 (.pointer (some ⟨p, 8, none⟩)) none (some (.int .i64 (j.ev.length : Int))) none).run Tryz.prog W = _ := slice35h p j.ev.length h.len
 have h0 : (0 : Int) ≤ (j.ev.length : Int) := by omega
 have h1 : (j.ev.length : Int) ≤ 16 := by have := h.len; omega
 clear h
 go_enter Tryz.func76, Tryz.ntmps76
 go_wp2_with fail
 go_region
 go_wp2_with fail
 go_ret
 exact ⟨rfl, (Kept.refl [] w).drew⟩
theorem rt40 : RowT 90 92 2 16 (.agg #[.int .i64 0, .int .i64 0]) := ⟨Tryz.underlying90, by kernel_rfl, rfl, by omega, by omega⟩
theorem rt30 : RowT 27 93 2 16 (.agg #[.int .i64 0, .int .i64 0]) := ⟨Tryz.underlying27, by kernel_rfl, rfl, by omega, by omega⟩
theorem rowE_form {w : World} {v : Value} {l : List Ep} (h : ReadsR 2 w v (CE l)) : ∃ a c, v = .slice a l.length c ∧ l.length ≤ c ∧ c ≤ 9223372036854775807 := by
 have := ReadsR.form h
 rwa [CE_length] at this
theorem rowE_at {w : World} {a : Option Addr} {n c : Nat} {l : List Ep} (h : ReadsR 2 w (.slice a n c) (CE l)) {j : Nat} {y : Ep} (hy : l[j]? = some y) : ∃ b o, a = some ⟨b, o, none⟩ ∧ w.cell? ⟨b, o + j * 2, none⟩ = some (Iv y.1) ∧ w.cell? ⟨b, o + j * 2 + 1, none⟩ = some (Iv y.2) := by
 obtain ⟨b, o, c', e, hc⟩ := ReadsR.at h j (cellsE y) (by simp [CE, hy])
 injection e with e _ _
 have h0 := hc 0 _ rfl
 have h1 := hc 1 _ rfl
 rw [Nat.add_zero] at h0
 exact ⟨b, o, e, h0, h1⟩
set_option maxHeartbeats 2000000 in
theorem state18 (h : IsJ w p j) (hr : RegJ j) : Calls Tryz.prog 23 #[.pointer (some ⟨p, 0, none⟩)] w fun e w' => e = .returned (.agg (BI (stJ j)).toArray) ∧ Kept [] w w' := by
 have hal := alloc29 w
 have hA0 := IsA.new w
 have k0 := (Kept.refl [] w).alloc (.cells (BI z8).toArray 84)
 have hs0 : (w.alloc (.cells (BI z8).toArray 84)).heap.size = w.heap.size + 1 := by simp
 generalize w.alloc (.cells (BI z8).toArray 84) = W0 at *
 have HB := Hid.mk (base25 (h.kept0 k0).isP)
 have HJ := Hid.mk h
 have hb8 := h.isP.a8
 clear h
 go_enter Tryz.func23, Tryz.ntmps23
 go_wp2_with (first | (refine wpList_alloc_run 84 rfl rfl _ _ hal ?_))
 refine HB.out.mono ?_
 rintro e w1 ⟨rfl, k1⟩
 have hal1 := alloc29 w1
 have hA1 := IsA.new w1
 have kA := (Kept.refl [] w1).alloc (.cells (BI z8).toArray 84)
 have hs1 : (w1.alloc (.cells (BI z8).toArray 84)).heap.size = w1.heap.size + 1 := by simp
 generalize w1.alloc (.cells (BI z8).toArray 84) = W1 at *
 obtain ⟨W2, hst, hA2, kS, hs2⟩ := hA1.store hb8
 have h01 : w.heap.size < w1.heap.size := by have := k1.size; omega
 have k02 : Kept [] w W2 := (k0.trans (k1.trans kA (by simp)) (by simp)).trans kS (by simp; omega)
 have hA02 : IsA W2 w.heap.size z8 := ⟨kS.keeps (kA.keeps (k1.keeps hA0.box (by simp)) (by simp)) (by simp; omega), rfl⟩
 have HC := Hid.mk (behind31 (HJ.out.kept0 k02))
 clear hal hA0 k0 hs0 HB k1 hA1 kA hs1 kS
 go_wp2_with (first | (refine wpList_alloc_run 84 rfl rfl _ _ hal1 ?_) | (refine wpList_store_run 84 (.tmp 3) (.tmp 7) rfl rfl _ _ rfl rfl _ hst ?_))
 refine HC.out.mono ?_
 rintro e w3 ⟨rfl, k3⟩
 have k03 := k02.trans k3 (by simp)
 have hA03 := hA02.kept0 k3
 have hA3 := hA2.kept0 k3
 clear HC k02 hA02 hA2 hst hal1 hs2
 have hw1 : ∀ x : World, True := fun _ => trivial
 generalize w1.heap.size = g at *
 generalize hn : j.ev.length = n at *
 have HN := Hid.mk hn
 have hn16 : n ≤ 16 := by have := HJ.out.len; omega
 clear hn hw1
 go_wp2_with fail
 go_loopw [11] (fun i wr => ∃ k : Nat, i = .int .i64 (k : Int) ∧ k ≤ n ∧ Hid (IsA wr g (doA j.base (j.ev.take k)) ∧ IsA wr w.heap.size z8 ∧ Kept [] w wr)) (fun i _ => n - (intOf i).toNat)
 case atStart => exact ⟨0, rfl, by omega, Hid.mk ⟨hA3, hA03, k03⟩⟩
 case round =>
  obtain ⟨k, rfl, hk, H⟩ := hrel
  by_cases hlt : k < n
  ·obtain ⟨y, hy⟩ : ∃ y, j.ev[k]? = some y := ⟨_, List.getElem?_eq_getElem (by have := HN.out; omega)⟩
   obtain ⟨d0, d1⟩ := (HJ.out.kept0 H.out.2.2).at hy
   have hjI : (k : Int) < (n : Int) := by omega
   have hj16 : (n : Int) ≤ 16 := by omega
   have hy7 := hr y (List.mem_of_getElem? hy)
   have k1 := (Kept.refl [] wr).alloc (.cells #[.int .i64 (y.r : Int), .int .i64 y.v] 92)
   have hA1 := H.out.1.kept0 k1
   obtain ⟨c0, hc0⟩ : ∃ c, (doA j.base (j.ev.take k))[y.r]? = some c := ⟨_, List.getElem?_eq_getElem (by rw [H.out.1.a8]; omega)⟩
   have x0 := H.out.1.cell hc0
   have x1 := hA1.cell hc0
   have f0 := H.out.1.free y.r
   have f1 := hA1.free y.r
   have r0 : (0 : Int) ≤ (y.r : Int) := by omega
   have r1 : (y.r : Int) < 8 := by omega
   have hgr : w.heap.size ≠ g := by omega
   have HR : Hid (IsA ((wr.alloc (.cells #[.int .i64 (y.r : Int), .int .i64 y.v] 92)).setCell ⟨g, y.r, none⟩ (.int .i64 y.v)) g (doA j.base (j.ev.take (k + 1))) ∧ IsA ((wr.alloc (.cells #[.int .i64 (y.r : Int), .int .i64 y.v] 92)).setCell ⟨g, y.r, none⟩ (.int .i64 y.v)) w.heap.size z8 ∧ Kept [] w ((wr.alloc (.cells #[.int .i64 (y.r : Int), .int .i64 y.v] 92)).setCell ⟨g, y.r, none⟩ (.int .i64 y.v))) := by
    have ks := (Kept.refl [g] (wr.alloc (.cells #[.int .i64 (y.r : Int), .int .i64 y.v] 92))).setCell (p := ⟨g, y.r, none⟩) (.inl (by simp)) (.int .i64 y.v)
    rw [doA_take hy]
    exact ⟨hA1.set (by omega) y.v, ⟨ks.keeps (H.out.2.1.kept0 k1).box (by simpa using hgr), rfl⟩, (H.out.2.2.trans k1 (by simp)).trans ks (by simp; omega)⟩
   clear hA3 hA03 k03 k3 k1 hA1 hc0 hy H
   go_wp2_with fail
   go_roundw
   case rel => exact ⟨k + 1, by go_num, by omega, HR⟩
   case measure => simp [intOf]; omega
  ·obtain rfl : k = n := by omega
   have hA := H.out.1
   rw [List.take_of_length_le (by rw [HN.out]; exact Nat.le_refl _)] at hA
   have hld := hA.load
   obtain ⟨W4, hst, hA4, kS, -⟩ := H.out.2.1.store (B := doA j.base j.ev) hA.a8
   have HR : Hid (IsA W4 w.heap.size (doA j.base j.ev) ∧ Kept [] w W4) := ⟨hA4, H.out.2.2.trans kS (by simp)⟩
   clear hA3 hA03 k03 k3 H hA kS hA4
   go_wp2_with (first | (refine wpList_load_run 84 (.tmp 3) rfl rfl _ rfl _ hld ?_) | (refine wpList_store_run 84 (.tmp 2) (.tmp 21) rfl rfl _ _ rfl rfl _ hst ?_))
   exact bodyPost_ret (result29 (u := 2) rfl _ _ w.heap.size _ rfl HR.out.1) rfl ⟨rfl, HR.out.2⟩
end
end Go.Proofs.YtngnenbidpojeaaGreatDoor
