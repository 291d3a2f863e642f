import Derived.Test.YtdadloaifebdiaaGreatQ27
import Derived.Test.YtdadloaifebdiaaGreatQ30
import Derived.Test.YtdadloaifebdiaaGreatQ34
/-
  readParts of an actor.
-/
namespace Go.Proofs.YtdadloaifebdiaaGreat
set_option maxRecDepth 100000
open Go.RowKit
set_option linter.unusedVariables false
/-- What a part's Decode answers: a pointer (or a row) and an error. -/
def PJ (w0 w : World) (X : Value) (e : Int) (o : Option Jn) : Prop := (o = none ∧ X = .pointer none ∧ e = 2) ∨ ∃ pj j, o = some j ∧ X = Ptr pj ∧ e = 0 ∧ IsJ w pj j ∧ w0.heap.size ≤ pj
def PI (w0 w : World) (X : Value) (e : Int) (o : Option (List Lt)) : Prop := (o = none ∧ X = .pointer none ∧ e = 2) ∨ ∃ pi qs, o = some (qs.map (·.x)) ∧ X = Ptr pi ∧ e = 0 ∧ IsB w pi qs ∧ w0.heap.size ≤ pi
def PO (w0 w : World) (X : Value) (e : Int) (o : Option Ob) : Prop := (o = none ∧ X = .pointer none ∧ e = 2) ∨ ∃ po b ys, o = some b ∧ X = Ptr po ∧ e = 0 ∧ IsO w po b.own b.K ys ∧ ys.map ot = b.L ∧ w0.heap.size ≤ po
def PP (w0 w : World) (X : Value) (e : Int) (o : Option (List Lt)) : Prop := e = (if o.isSome = true then 0 else 2) ∧ ∃ w1 qs, OwnL w1 w X qs ∧ qs.map (·.x) = o.getD []
section
variable {w0 w w' : World} {X : Value} {e : Int} {ts : List Nat}
theorem PJ.turn {o : Option Jn} (h : PJ w0 w X e o) (T : TT ts w0 w w') (ht : ∀ x ∈ ts, x ∈ [122, 53, 125, 132]) : PJ w0 w' X e o := by
  rcases h with h | ⟨pj, j, h1, h2, h3, h4, h5⟩
  · exact .inl h
  · exact .inr ⟨pj, j, h1, h2, h3, T.isJ h4 (fun hm => by have := ht _ hm; revert this; decide), h5⟩
theorem PI.turn {o : Option (List Lt)} (h : PI w0 w X e o) (T : TT ts w0 w w') (ht : ∀ x ∈ ts, x ∈ [122, 53, 125, 132]) : PI w0 w' X e o := by
  rcases h with h | ⟨pj, j, h1, h2, h3, h4, h5⟩
  · exact .inl h
  · exact .inr ⟨pj, j, h1, h2, h3, T.isB h4 (fun hm => by have := ht _ hm; revert this; decide) (fun hm => by have := ht _ hm; revert this; decide), h5⟩
theorem PO.turn {o : Option Ob} (h : PO w0 w X e o) (T : TT ts w0 w w') (ht : ∀ x ∈ ts, x ∈ [122, 53, 125, 132]) : PO w0 w' X e o := by
  rcases h with h | ⟨po, b, ys, h1, h2, h3, h4, h5, h6⟩
  · exact .inl h
  · exact .inr ⟨po, b, ys, h1, h2, h3, T.isO h4 (fun hm => by have := ht _ hm; revert this; decide) (fun hm => by have := ht _ hm; revert this; decide), h5, h6⟩
theorem PP.turn {o : Option (List Lt)} (h : PP w0 w X e o) (T : TT ts w0 w w') (ht : ∀ x ∈ ts, x ∈ [122, 53, 125, 132]) : PP w0 w' X e o := by
  obtain ⟨h1, w1, qs, h2, h3⟩ := h
  refine ⟨h1, w1, qs, ?_, h3⟩
  obtain ⟨S, kS, hS⟩ := T
  exact h2.kept kS fun y hy => ⟨fun e => TT.neR hS h2.own (fun hm => by have := ht _ hm; revert this; decide) y e hy, fun q hq e => TT.neJ hS (h2.args q hq) (fun hm => by have := ht _ hm; revert this; decide) y e hy⟩
theorem PJ.form {o : Option Jn} (h : PJ w0 w X e o) : ∃ x, X = .pointer x := by rcases h with ⟨-, h, -⟩ | ⟨pj, j, -, h, -⟩ <;> exact ⟨_, h⟩
theorem PI.form {o : Option (List Lt)} (h : PI w0 w X e o) : ∃ x, X = .pointer x := by rcases h with ⟨-, h, -⟩ | ⟨pj, j, -, h, -⟩ <;> exact ⟨_, h⟩
theorem PO.form {o : Option Ob} (h : PO w0 w X e o) : ∃ x, X = .pointer x := by rcases h with ⟨-, h, -⟩ | ⟨po, b, ys, -, h, -⟩ <;> exact ⟨_, h⟩
theorem PP.form {o : Option (List Lt)} (h : PP w0 w X e o) : ∃ a n c, X = .slice a n c := by
  obtain ⟨h1, w1, qs, h2, h3⟩ := h
  obtain ⟨a, c, e, -⟩ := h2.row.form
  exact ⟨a, _, c, e⟩
end
/-- An actor that is built beside a Reader; A: what was built so far. -/
structure RP (A : World → Prop) (w0 w : World) (p g q : Nat) (x0 x1 x2 : Value) (t : Int) (x4 : Value) (e0 e1 e2 e3 : Int) (l : List UInt8) (bad : Bool) : Prop where
  box : w.heap[p]? = some (.cells #[x0, x1, x2, Iv t, x4] 53 (0, 0))
  arr : w.heap[g]? = some (.cells #[Iv e0, Iv e1, Iv e2, Iv e3] 125 (0, 0))
  rd : ∃ v, IsR 122 w q v l bad ∧ v.ownBlock ≠ some p ∧ v.ownBlock ≠ some g
  hp : w0.heap.size ≤ p
  hg : w0.heap.size ≤ g
  hq : w0.heap.size ≤ q
  k : Kept [] w0 w
  a : A w
/-- What is built stays. -/
def Stays (w0 : World) (A : World → Prop) : Prop := ∀ w w' ts, TT ts w0 w w' → (∀ x ∈ ts, x ∈ [122, 53, 125, 132]) → A w → A w'
section
variable {A : World → Prop} {w0 w w' : World} {p g q : Nat} {x0 x1 x2 x4 : Value} {t e0 e1 e2 e3 : Int} {l : List UInt8} {bad : Bool}
theorem RP.kept0 (hA : Stays w0 A) (h : RP A w0 w p g q x0 x1 x2 t x4 e0 e1 e2 e3 l bad) (k : Kept [] w w') : RP A w0 w' p g q x0 x1 x2 t x4 e0 e1 e2 e3 l bad := by
  obtain ⟨v, h1, h2⟩ := h.rd
  exact ⟨k.keeps h.box (by simp), k.keeps h.arr (by simp), ⟨v, h1.kept k (by simp) (by simp), h2⟩, h.hp, h.hg, h.hq, h.k.trans k (by simp), hA _ _ [] (TT.of0 k) (by simp) h.a⟩
theorem rp_text (hA : Stays w0 A) (h : RP A w0 w p g q x0 x1 x2 t x4 e0 e1 e2 e3 l bad) : Calls Tryz.prog 73 #[Ptr q] w fun e w' => e = .returned (Sv (rtext l bad).1) ∧ RP A w0 w' p g q x0 x1 x2 t x4 e0 e1 e2 e3 (rtext l bad).2.1 (rtext l bad).2.2 := by
  obtain ⟨v, h1, h2, h3⟩ := h.rd
  refine (rtext_any q v l bad w h1).mono ?_
  rintro e w' ⟨rfl, v', i1, i2, i3⟩
  have T : TT [122] w0 w w' := ⟨[q], i2, fun g' hg' => by simp at hg'; subst hg'; exact ⟨h.hq, _, _, h1.box, by simp⟩⟩
  exact ⟨rfl, ⟨T.box h.box (by decide), T.box h.arr (by decide), ⟨v', i1, fun e => h2 (i3 p e), fun e => h3 (i3 g e)⟩, h.hp, h.hg, h.hq, T.kept0 h.k, hA _ _ _ T (by simp) h.a⟩⟩
theorem RP.tt {i : Nat} {x : Value} (hA : Stays w0 A) (h : RP A w0 w p g q x0 x1 x2 t x4 e0 e1 e2 e3 l bad) : A (w.setCell ⟨p, i, none⟩ x) := hA _ _ _ (TT.set h.box h.hp x) (by simp) h.a
theorem RP.setP (hA : Stays w0 A) (h : RP A w0 w p g q x0 x1 x2 t x4 e0 e1 e2 e3 l bad) (i : Nat) (x : Value) {y0 y1 y2 y4 : Value} {s : Int} (hy : ([x0, x1, x2, Iv t, x4] : List Value).set i x = [y0, y1, y2, Iv s, y4]) : RP A w0 (w.setCell ⟨p, i, none⟩ x) p g q y0 y1 y2 s y4 e0 e1 e2 e3 l bad := by
  obtain ⟨v, h1, h2, h3⟩ := h.rd
  have T := TT.set (i := i) h.box h.hp x
  refine ⟨?_, T.box h.arr (by decide), ⟨v, h1.kept ((Kept.refl [p] w).setCell (p := ⟨p, i, none⟩) (.inl (by simp)) x) (fun hm => ?_) (fun g' hg' hm => ?_), h2, h3⟩, h.hp, h.hg, h.hq, T.kept0 h.k, hA _ _ _ T (by simp) h.a⟩
  · have := set_list (k := i) (x := x) (L := [x0, x1, x2, Iv t, x4]) h.box
    rw [hy] at this
    exact this
  · simp at hm
    exact box_ne h1.box h.box (by decide) hm
  · simp at hm
    subst hm
    exact h2 hg'
theorem RP.setE (hA : Stays w0 A) (h : RP A w0 w p g q x0 x1 x2 t x4 e0 e1 e2 e3 l bad) (i : Nat) (x : Int) {f0 f1 f2 f3 : Int} (hy : ([Iv e0, Iv e1, Iv e2, Iv e3] : List Value).set i (Iv x) = [Iv f0, Iv f1, Iv f2, Iv f3]) : RP A w0 (w.setCell ⟨g, i, none⟩ (Iv x)) p g q x0 x1 x2 t x4 f0 f1 f2 f3 l bad := by
  obtain ⟨v, h1, h2, h3⟩ := h.rd
  have T := TT.set (i := i) h.arr h.hg (Iv x)
  refine ⟨T.box h.box (by decide), ?_, ⟨v, h1.kept ((Kept.refl [g] w).setCell (p := ⟨g, i, none⟩) (.inl (by simp)) (Iv x)) (fun hm => ?_) (fun g' hg' hm => ?_), h2, h3⟩, h.hp, h.hg, h.hq, T.kept0 h.k, hA _ _ _ T (by simp) h.a⟩
  · have := set_list (k := i) (x := Iv x) (L := [Iv e0, Iv e1, Iv e2, Iv e3]) h.arr
    rw [hy] at this
    exact this
  · simp at hm
    exact box_ne h1.box h.arr (by decide) hm
  · simp at hm
    subst hm
    exact h3 hg'
theorem RP.more {B : World → Prop} (h : RP A w0 w p g q x0 x1 x2 t x4 e0 e1 e2 e3 l bad) (hb : B w) : RP (fun W => A W ∧ B W) w0 w p g q x0 x1 x2 t x4 e0 e1 e2 e3 l bad := ⟨h.box, h.arr, h.rd, h.hp, h.hg, h.hq, h.k, h.a, hb⟩
theorem Stays.and {B : World → Prop} (hA : Stays w0 A) (hB : Stays w0 B) : Stays w0 (fun W => A W ∧ B W) := fun w w' ts T ht h => ⟨hA _ _ _ T ht h.1, hB _ _ _ T ht h.2⟩
theorem RP.cells (h : RP A w0 w p g q x0 x1 x2 t x4 e0 e1 e2 e3 l bad) : w.cell? ⟨p, 0, none⟩ = some x0 ∧ w.cell? ⟨p, 1, none⟩ = some x1 ∧ w.cell? ⟨p, 2, none⟩ = some x2 ∧ w.cell? ⟨p, 3, none⟩ = some (Iv t) ∧ w.cell? ⟨p, 4, none⟩ = some x4 := by
  have h := h.box
  refine ⟨?_, ?_, ?_, ?_, ?_⟩ <;> (unfold World.cell?; rw [h]; rfl)
theorem RP.cellsE (h : RP A w0 w p g q x0 x1 x2 t x4 e0 e1 e2 e3 l bad) : w.cell? ⟨g, 0, none⟩ = some (Iv e0) ∧ w.cell? ⟨g, 1, none⟩ = some (Iv e1) ∧ w.cell? ⟨g, 2, none⟩ = some (Iv e2) ∧ w.cell? ⟨g, 3, none⟩ = some (Iv e3) := by
  have h := h.arr
  refine ⟨?_, ?_, ?_, ?_⟩ <;> (unfold World.cell?; rw [h]; rfl)
theorem RP.freeP (h : RP A w0 w p g q x0 x1 x2 t x4 e0 e1 e2 e3 l bad) (i : Nat) : w.frozen? ⟨p, i, none⟩ = false := by simp [World.frozen?, h.box]
theorem RP.freeE (h : RP A w0 w p g q x0 x1 x2 t x4 e0 e1 e2 e3 l bad) (i : Nat) : w.frozen? ⟨g, i, none⟩ = false := by simp [World.frozen?, h.arr]
end
theorem errs4 (e0 e1 e2 e3 : Int) (W : World) : (Op.equalIn 10000 125 (.agg #[Iv e0, Iv e1, Iv e2, Iv e3]) (.agg #[.int .i64 0, .int .i64 0, .int .i64 0, .int .i64 0])).run Tryz.prog W = .ok (decide (e0 = 0) && decide (e1 = 0) && decide (e2 = 0) && decide (e3 = 0)) W := by
  have hi : ∃ i, Tryz.prog.info? 25 = some i := Option.isSome_iff_exists.1 (by kernel_rfl)
  obtain ⟨i, hi⟩ := hi
  have hg : ∀ W : World, (isAgg 25).run Tryz.prog W = .ok false W := fun W => by kernel_rfl
  have he : ∀ (x y : Int) (W : World), (Op.equalIn 9999 25 (.int .i64 x) (.int .i64 y)).run Tryz.prog W = .ok (x == y) W := fun x y W => by
    rw [run_equalIn_int W 9998 25 .i64 _ x y Tryz.underlying25]
  have hc : Tryz.prog.cellsOf 25 = 1 := by kernel_rfl
  have hr : List.range 4 = [0, 1, 2, 3] := by decide
  rw [run_equalIn_array W 9999 _ _ Tryz.underlying125 hi, hc, hr]
  by_cases h0 : e0 = 0 <;> by_cases h1 : e1 = 0 <;> by_cases h2 : e2 = 0 <;> by_cases h3 : e3 = 0 <;> simp [Op.eqItems, part, hg, he, go_sem, h0, h1, h2, h3]
end Go.Proofs.YtdadloaifebdiaaGreat
