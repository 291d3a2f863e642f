import Derived.Deep.Slices
import Derived.ChangeArms
import Derived.OpenShut
import Derived.SizedLaws
import Derived.Deep.RegionLaw
import Derived.ChangeKeysEq
import Derived.Deep.QuietTactic
import Derived.BigQuiet
import Derived.Test.YtngnenbidpojeaaGreatDoorR13
import Derived.Test.YtngnenbidpojeaaGreatDoorR18
import Derived.Test.YtngnenbidpojeaaGreatDoorR19
/-
  Rows of events, and lists of such rows, that came in.
-/
namespace Go.Proofs.YtngnenbidpojeaaGreatDoor
set_option maxRecDepth 100000
open Go.RowKit Go.Deep Go.ChangeShapes
set_option linter.unusedVariables false
/-- An event's integers are of 64 bits. -/
def E64 (e : Ep) : Prop := I64 e.1 ∧ I64 e.2
/-- Events that came in. -/
def EvsIn (W : World) (v : Value) (l : List Ep) : Prop := ReadsR 2 W v (CE l) ∧ ∀ e ∈ l, E64 e
theorem EvsIn.kept {W W' : World} {v : Value} {l : List Ep} (h : EvsIn W v l) (k : Kept [] W W') : EvsIn W' v l := ⟨ReadsR.kept h.1 k (by simp), h.2⟩
theorem open_ev {H : Type} {enc : TypeId × Value → H} {W : World} {fuel : Nat} {cs : List Value} {x : DataW H × List MemPlace} (h : DataW.trod enc Tryz.prog W 0 (fun _ => true) true fuel 93 cs = some x) (hl : cs.length = 2) :
    ∃ e : Ep, cs = cellsE e ∧ E64 e := by
  obtain ⟨xs, k, hk, hxy, _, hxl, hf⟩ := DataW.trod_struct Tryz.underlying93 h
  match xs, hxl, cs, hl with
  | [y0, y1], _, [v0, v1], _ =>
    have g0 := hf 0 _ rfl
    have g1 := hf 1 _ rfl
    simp [show Tryz.prog.cellsOf 3 = 1 by kernel_rfl, show Tryz.prog.cellsOf 2 = 1 by kernel_rfl] at g0 g1
    obtain ⟨a, e0, f0, w0⟩ := DataW.trod_int Tryz.underlying3 g0
    obtain ⟨b, e1, f1, w1⟩ := DataW.trod_int Tryz.underlying2 g1
    simp at e0 e1
    subst e0 e1
    exact ⟨(a, b), rfl, bounds_i64 w0, bounds_i64 w1⟩
theorem open_evs {H : Type} {enc : TypeId × Value → H} {W : World} {fuel : Nat} {cs : List Value} {x : DataW H × List MemPlace} (h : DataW.trod enc Tryz.prog W 0 (fun _ => true) true fuel 27 cs = some x) :
    ∃ v l, cs = [v] ∧ EvsIn W v l := by
  rcases open_slice Tryz.underlying27 h with ⟨h0, hx⟩ | ⟨a, len, cap, m, n, D, Pl, hcs, hb, hl, hm, hmm, hx, hel⟩
  · exact ⟨_, [], h0, ReadsR.nil 2 W, by simp⟩
  · have hm' : m = cap := by simpa using hmm
    subst hm'
    have each : ∀ i, i < len → ∃ q : Ep, (∀ j y, (cellsE q)[j]? = some y → W.cell? (a.add (i * 2 + j)) = some y) ∧ E64 q := by
      intro i hi
      obtain ⟨cs', h1, h2⟩ := hel i (by omega)
      rw [show Tryz.prog.cellsOf 93 = 2 by kernel_rfl] at h1
      obtain ⟨_, hlen, hcell⟩ := World.cells?_some h1
      obtain ⟨q, rfl, hk⟩ := open_ev h2 (by simpa using hlen)
      refine ⟨q, fun j y hy => ?_, hk⟩
      have hj := (List.getElem?_eq_some_iff.1 hy).1
      have := hcell j (by simpa [cellsE] using hj)
      rw [addr_add_add] at this
      rw [this]
      simp [hy]
    obtain ⟨f, hfp⟩ := choose_lt each
    have hll : ((List.range len).map f).length = len := by simp
    refine ⟨_, (List.range len).map f, hcs, ⟨some a, m, by rw [CE_length, hll], by rw [CE_length, hll]; omega, hm, by simp, fun hne => ?_⟩, ?_⟩
    · have hpos : 0 < len := by
        rcases Nat.eq_zero_or_pos len with h | h
        · subst h; simp [CE] at hne
        · exact h
      obtain ⟨b, o, spot⟩ := a
      have hc := (hfp 0 (by omega)).1 0 _ rfl
      have hspot : spot = none := by simpa [Addr.add] using World.cell?_spot hc
      subst hspot
      refine ⟨b, o, rfl, fun j r hr i y hy => ?_⟩
      have hr' : ((List.range len).map f).map cellsE = CE ((List.range len).map f) := rfl
      rw [← hr', List.getElem?_map, Option.map_eq_some_iff] at hr
      obtain ⟨p, hp, rfl⟩ := hr
      have hj : j < len := by
        have := (List.getElem?_eq_some_iff.1 hp).1
        simpa using this
      rw [List.getElem?_map, List.getElem?_range hj] at hp
      simp at hp
      subst hp
      have := (hfp j hj).1 i y hy
      rw [add_at] at this
      rw [Nat.add_assoc]
      exact this
    · intro x hx
      simp only [List.mem_map, List.mem_range] at hx
      obtain ⟨i, hi, rfl⟩ := hx
      exact (hfp i hi).2
section
variable {w : World}
end
end Go.Proofs.YtngnenbidpojeaaGreatDoor
/-
  theirs; one journal of the program's since a world; awake.
-/
namespace Go.Proofs.YtngnenbidpojeaaGreatDoor
set_option maxRecDepth 100000
open Go.RowKit
set_option linter.unusedVariables false
theorem cellsE_one (y : Ep) : ∀ u ∈ cellsE y, u.oneCell' = true := fun x hx => by
  simp [cellsE] at hx
  rcases hx with rfl | rfl <;> rfl
/-- What is laid out so far, in new memory: events of the type t. -/
def OutE (t : TypeId) (w wr : World) (u : Value) (L : List Ep) : Prop := OwnsR t 2 wr u (CE L) ∧ Fresh w u ∧ Kept [] w wr
theorem OutE.nil (t : TypeId) (w : World) : OutE t w w (.slice none 0 0) [] := ⟨OwnsR.nil _ _ _, fresh_nil _ _, Kept.refl [] w⟩
theorem OutE.form {t : TypeId} {w wr : World} {u : Value} {L : List Ep} (h : OutE t w wr u L) : ∃ a c, u = .slice a L.length c := by
  obtain ⟨a, c, e, -⟩ := h.1.form
  rw [CE_length] at e
  exact ⟨a, c, e⟩
theorem OutE.row {t : TypeId} {w wr : World} {u : Value} {L : List Ep} (h : OutE t w wr u L) : ReadsR 2 wr u (CE L) := h.1.reads (CE_wide L)
theorem OutE.more {T t : TypeId} {b : Nat} {z : Value} (R : RowT T t 2 b z) {w wr : World} {u : Value} {L : List Ep} (h : OutE t w wr u L) (hl : L.length ≤ 900000) (y : Ep) : ∃ ad c w2, (Builtin.append_ #[T, T] T #[u, .slice (some ⟨wr.heap.size, 0, none⟩) 1 1]).run Tryz.prog (wr.alloc (.cells #[Iv y.1, Iv y.2] t)) = .ok (.slice ad (L.length + 1) c) w2 ∧ OutE t w w2 (.slice ad (L.length + 1) c) (L ++ [y]) := by
  obtain ⟨h1, h2, h3⟩ := h
  obtain ⟨ad, c, w2, hrun, hO, k2, hN⟩ := append_rowR R h1 (cellsE y) rfl (cellsE_one y) (by rw [CE_length]; exact hl) t (0, 0) T
  rw [CE_length] at *
  refine ⟨ad, c, w2, hrun, ?_, fun g hg => ?_, h3.two k2 (fun x hx => by rw [Option.mem_toList] at hx; exact h2 x hx)⟩
  · rw [CE_append]; exact hO
  · rcases hN g hg with h | h
    · exact h2 g h
    · exact Nat.le_trans h3.size h
section
variable {w : World}
end
theorem index29 {A : List Int} {i : Nat} {x : Int} (ha : A.length = 8) (h : A[i]? = some x) (W : World) : (Instr.index 84 (.agg (BI A).toArray) (.int .i64 (i : Int))).run Tryz.prog W = .ok (Iv x) W := by
  have hs : (sizeOf 2).run Tryz.prog W = .ok 1 W := by kernel_rfl
  have hc : (BI A)[i]? = some (Iv x) := BI_get h
  simp [Instr.index, run_underlying Tryz.underlying84, asIntOf, hs, part, go_sem, hc]
  intro h8
  have := get_lt h
  omega
theorem toE_ok {e : Ep} (h : badE e = false) (h6 : E64 e) : (toE e).r ≤ 7 ∧ I64 (toE e).v := by
  have := badE_no h
  exact ⟨by show e.1.toNat ≤ 7; omega, h6.2⟩
theorem GoodJ.addR {j : Jn} (h : GoodJ j) {l : List Ep} (h6 : ∀ e ∈ l, E64 e) (hv : j.ver + l.length < 18446744073709551616) : GoodJ (addR j l) := by
  unfold YtngnenbidpojeaaGreatDoor.addR
  split
  · exact h
  · rename_i ha
    refine GoodJ.addA h (fun e he => ?_) (by rw [List.length_map]; exact hv)
    obtain ⟨x, hx, rfl⟩ := List.mem_map.1 he
    refine toE_ok ?_ (h6 x hx)
    cases hb : badE x with
    | false => rfl
    | true => exact absurd (List.any_eq_true.2 ⟨x, hx, hb⟩) ha
theorem addR_ver (j : Jn) (l : List Ep) : (addR j l).ver ≤ j.ver + l.length := by
  unfold addR
  split
  · omega
  · rw [ver_addA, List.length_map]; exact Nat.le_refl _
section
variable {w0 w w' : World} {p : Nat} {j : Jn}
end
end Go.Proofs.YtngnenbidpojeaaGreatDoor
/-
  The document's journal: drop, State.
-/
namespace Go.Proofs.YtngnenbidpojeaaGreatDoor
set_option maxRecDepth 100000
open Go.RowKit
set_option linter.unusedVariables false
/-- The cells of the document's journal. -/
def cellsF (A : List Int) (v : Value) (n : Nat) : List Value := BI A ++ [v, Uv n]
/-- The document's journal at block f: its events lie in the row v. -/
structure IsF_J (w : World) (f : Nat) (v : Value) (j : Jn) : Prop where
  box : w.heap[f]? = some (.cells (cellsF j.base v j.ver).toArray 137 (0, 0))
  own : OwnsR 93 2 w v (CE (j.ev.map ofE))
  b8 : j.base.length = 8
section
variable {w w' : World} {f : Nat} {v : Value} {j : Jn}
theorem IsF_J.lt (h : IsF_J w f v j) : f < w.heap.size := lt_of_block h.box
theorem IsF_J.kept {S : List Nat} (h : IsF_J w f v j) (k : Kept S w w') (hf : f ∉ S) (hv : ∀ g, v.ownBlock = some g → g ∉ S) : IsF_J w' f v j := ⟨k.keeps h.box hf, h.own.kept k hv, h.b8⟩
theorem IsF_J.kept0 (h : IsF_J w f v j) (k : Kept [] w w') : IsF_J w' f v j := h.kept k (by simp) (by simp)
theorem IsF_J.free (h : IsF_J w f v j) (i : Nat) : w.frozen? ⟨f, i, none⟩ = false := by simp [World.frozen?, h.box]
theorem IsF_J.cellA (h : IsF_J w f v j) {i : Nat} {x : Int} (hi : j.base[i]? = some x) : w.cell? ⟨f, i, none⟩ = some (Iv x) := cell_list h.box (by
  rw [cellsF, List.getElem?_append_left (by rw [BI_length]; exact get_lt hi)]
  exact BI_get hi)
theorem IsF_J.ev (h : IsF_J w f v j) : w.cell? ⟨f, 8, none⟩ = some v := cell_list h.box (by
  rw [cellsF, List.getElem?_append_right (by rw [BI_length, h.b8]; exact Nat.le_refl _), BI_length, h.b8]
  rfl)
theorem IsF_J.ver (h : IsF_J w f v j) : w.cell? ⟨f, 9, none⟩ = some (Uv j.ver) := cell_list h.box (by
  rw [cellsF, List.getElem?_append_right (by rw [BI_length, h.b8]; omega), BI_length, h.b8]
  rfl)
theorem IsF_J.row (h : IsF_J w f v j) : ReadsR 2 w v (CE (j.ev.map ofE)) := h.own.reads (CE_wide _)
theorem IsF_J.form (h : IsF_J w f v j) : ∃ a c, v = .slice a j.ev.length c ∧ j.ev.length ≤ c ∧ c ≤ 9223372036854775807 := by
  have := rowE_form h.row
  rwa [List.length_map] at this
/-- Its row is another's block. -/
theorem IsF_J.apart (h : IsF_J w f v j) : v.ownBlock ≠ some f := ownsR_ne h.own h.box (by decide)
theorem IsF_J.rangeA (h : IsF_J w f v j) : w.rangeAt f 0 (BI j.base) := fun i x hx => by
  rw [BI, List.getElem?_map, Option.map_eq_some_iff] at hx
  obtain ⟨y, hy, rfl⟩ := hx
  rw [Nat.zero_add]
  exact h.cellA hy
/-- A register is set. -/
theorem IsF_J.setA (h : IsF_J w f v j) {i : Nat} (hi : i < 8) (x : Int) : IsF_J (w.setCell ⟨f, i, none⟩ (Iv x)) f v ⟨j.base.set i x, j.ev, j.ver⟩ := by
  have k := (Kept.refl [f] w).setCell (p := ⟨f, i, none⟩) (.inl (by simp)) (Iv x)
  refine ⟨?_, h.own.kept k (fun g hg hm => by simp at hm; subst hm; exact h.apart hg), by dsimp only; rw [List.length_set]; exact h.b8⟩
  rw [set_list h.box, cellsF, List.set_append_left _ _ (by rw [BI_length, h.b8]; exact hi), BI_set]
  rfl
/-- Another row of events is laid in. -/
theorem IsF_J.put (h : IsF_J w f v j) {u : Value} {ev : List Ev} (hu : OwnsR 93 2 w u (CE (ev.map ofE))) : IsF_J (w.setCell ⟨f, 8, none⟩ u) f u ⟨j.base, ev, j.ver⟩ := by
  have k := (Kept.refl [f] w).setCell (p := ⟨f, 8, none⟩) (.inl (by simp)) u
  refine ⟨?_, hu.kept k (fun g hg hm => by simp at hm; subst hm; exact ownsR_ne hu h.box (by decide) hg), h.b8⟩
  rw [set_list h.box, cellsF, List.set_append_right _ _ (by rw [BI_length, h.b8]; exact Nat.le_refl _), BI_length, h.b8]
  rfl
/-- The version is set. -/
theorem IsF_J.setv (h : IsF_J w f v j) (n : Nat) : IsF_J (w.setCell ⟨f, 9, none⟩ (Uv n)) f v ⟨j.base, j.ev, n⟩ := by
  have k := (Kept.refl [f] w).setCell (p := ⟨f, 9, none⟩) (.inl (by simp)) (Uv n)
  refine ⟨?_, h.own.kept k (fun g hg hm => by simp at hm; subst hm; exact h.apart hg), h.b8⟩
  rw [set_list h.box, cellsF, List.set_append_right _ _ (by rw [BI_length, h.b8]; omega), BI_length, h.b8]
  rfl
theorem IsF_J.new (w : World) : IsF_J (w.alloc (.cells (cellsF z8 (.slice none 0 0) 0).toArray 137)) w.heap.size (.slice none 0 0) newJ := ⟨heap_alloc_new w _, OwnsR.nil _ _ _, rfl⟩
end
section
variable {w : World} {f : Nat} {v : Value}
/-- What region 1 of drop does. -/
theorem drop_tail {W : World} {a : Option Addr} {n c : Nat} {b : List Int} {y : Ev} {t : List Ev} {ver : Nat} (hF : IsF_J W f (.slice a n c) ⟨b, y :: t, ver⟩) (hn : n = t.length + 1) (hl : n ≤ 1000) (hc : n ≤ c) :
    ∃ a1 c1 W1, (Builtin.append_ #[27, 27] 27 #[.slice (some ⟨W.heap.size, 0, none⟩) 0 0, .slice (cutA a c 1 2) (n - 1) (c - 1)]).run Tryz.prog (W.alloc (.cells #[] 93)) = .ok (.slice a1 (n - 1) c1) W1 ∧ Kept [] W W1 ∧ W1.cell? ⟨f, 8, none⟩ = some (.slice a n c) ∧ W1.frozen? ⟨f, 8, none⟩ = false ∧
      IsF_J (W1.setCell ⟨f, 8, none⟩ (.slice a1 (n - 1) c1)) f (.slice a1 (n - 1) c1) ⟨b, t, ver⟩ ∧ Fresh W (.slice a1 (n - 1) c1) := by
  have k0 := (Kept.refl [] W).alloc (.cells #[] 93)
  have ho : OwnsR 93 2 (W.alloc (.cells #[] 93)) (.slice (some ⟨W.heap.size, 0, none⟩) 0 0) [] := ownsR_block (rs := []) (heap_alloc_new W _) (by intro r hr; cases hr) rfl (by decide)
  have hr := ReadsR.cut (k := 2) (i := 1) (j := n) (m := c) (by rw [CE_length, List.length_map]; simpa using hn) (ReadsR.kept hF.row k0 (by simp)) (by omega) (Nat.le_refl _) hc (Nat.le_refl _)
  have hrows : ((CE ((y :: t).map ofE)).take n).drop 1 = CE (t.map ofE) := by
    rw [List.take_of_length_le (by rw [CE_length, List.length_map, hn]; simp)]
    simp [CE]
  rw [hrows] at hr
  obtain ⟨a1, c1, W1, hrun, hO, hg, hN⟩ := run_appendR rt30 (W.alloc (.cells #[] 93)) 27 _ [] ho _ (CE (t.map ofE)) (CE_wide _) hr (by rw [CE_length, List.length_map]; simp; omega)
  have hlt : (CE (t.map ofE)).length = n - 1 := by rw [CE_length, List.length_map]; omega
  simp only [List.nil_append, List.length_nil, Nat.zero_add, hlt] at hrun hO hN
  have k1 : Kept [] W W1 := k0.grown hg (fun x hx => .inr (by simp [Value.ownBlock] at hx; omega))
  have hF1 := hF.kept0 k1
  refine ⟨a1, c1, W1, hrun, k1, hF1.ev, hF1.free _, hF1.put (ev := t) hO, fun g hg => ?_⟩
  rcases hN g hg with h | h
  · simp [Value.ownBlock] at h; omega
  · have := k0.size; omega
end
end Go.Proofs.YtngnenbidpojeaaGreatDoor
/-
  The document's journal: drop.
-/
namespace Go.Proofs.YtngnenbidpojeaaGreatDoor
set_option maxRecDepth 100000
open Go.RowKit
set_option linter.unusedVariables false
section
variable {w : World} {f : Nat} {v : Value}
set_option maxHeartbeats 2000000 in
theorem drop29 {b : List Int} {y : Ev} {t : List Ev} {ver : Nat} (hF : IsF_J w f v ⟨b, y :: t, ver⟩) (hy : y.r ≤ 7) (hl : t.length ≤ 900) : Calls Tryz.prog 91 #[.pointer (some ⟨f, 0, none⟩)] w fun e w' => e = .returned (.tuple #[]) ∧ (∃ u, IsF_J w' f u ⟨doE b y, t, ver⟩ ∧ Fresh w u) ∧ Kept [f] w w' := by
  obtain ⟨a, c, rfl, hc1, hc2⟩ := hF.form
  have hn : (y :: t).length = t.length + 1 := rfl
  dsimp only at hc1 hF ⊢
  generalize (y :: t).length = n at *
  have HN := Hid.mk hn
  have hrow := hF.row
  obtain ⟨bb, o, rfl, d0, d1⟩ := rowE_at hrow (j := 0) (y := ofE y) rfl
  rw [Nat.zero_mul, Nat.add_zero] at d0 d1
  obtain ⟨x0, hx0⟩ : ∃ x, b[y.r]? = some x := ⟨_, List.getElem?_eq_getElem (by have := hF.b8; dsimp only at this; omega)⟩
  have c0 := hF.cellA hx0
  have f0 := hF.free y.r
  have c0' : w.drew.cell? ⟨f, y.r, none⟩ = some (Iv x0) := c0
  have f0' : w.drew.frozen? ⟨f, y.r, none⟩ = false := f0
  have S0 : w.drew.cell? ⟨f, 8, none⟩ = some (.slice (some ⟨bb, o, none⟩) n c) ∧ w.drew.cell? ⟨bb, o, none⟩ = some (Iv (y.r : Int)) ∧ w.drew.cell? ⟨bb, o + 1, none⟩ = some (Iv y.v) := ⟨hF.ev, d0, d1⟩
  have hF2 := hF.setA (i := y.r) (by omega) y.v
  have k2 : Kept [f] w (w.setCell ⟨f, y.r, none⟩ (Iv y.v)) := (Kept.refl [f] w).setCell (p := ⟨f, y.r, none⟩) (.inl (by simp)) _
  obtain ⟨bb', o', ebb, d2, d3⟩ := rowE_at hF2.row (j := 0) (y := ofE y) rfl
  injection ebb with ebb
  injection ebb with e1 e2
  subst e1 e2
  rw [Nat.zero_mul, Nat.add_zero] at d2 d3
  have HQ : Hid ((w.setCell ⟨f, y.r, none⟩ (Iv y.v)).drew.cell? ⟨f, 8, none⟩ = some (.slice (some ⟨bb, o, none⟩) n c) ∧ (w.setCell ⟨f, y.r, none⟩ (Iv y.v)).drew.cell? ⟨bb, o, none⟩ = some (Iv (y.r : Int)) ∧ (w.setCell ⟨f, y.r, none⟩ (Iv y.v)).drew.cell? ⟨bb, o + 1, none⟩ = some (Iv y.v)) := ⟨hF2.ev, d2, d3⟩
  have H2 : Hid (IsF_J (w.setCell ⟨f, y.r, none⟩ (Iv y.v)).drew f (.slice (some ⟨bb, o, none⟩) n c) ⟨doE b y, y :: t, ver⟩ ∧ Kept [f] w (w.setCell ⟨f, y.r, none⟩ (Iv y.v)).drew) := ⟨hF2.kept0 (Kept.refl [] _).drew, k2.drew⟩
  have r0 : (0 : Int) ≤ (y.r : Int) := by omega
  have r1 : (y.r : Int) < 8 := by omega
  have g0 : (0 : Int) < (n : Int) := by omega
  have g1 : (1 : Int) ≤ (n : Int) := by omega
  have g3 : 0 < n := by omega
  have g4 : 1 ≤ n := by omega
  have g2 : (n : Int) ≤ (c : Int) := by omega
  clear hF hF2 k2 d0 d1 d2 d3 hrow hx0 hn
  go_enter Tryz.func91, Tryz.ntmps91
  go_wp2_with fail
  go_region_held3 (fun V => V.cell? ⟨f, 8, none⟩ = some (.slice (some ⟨bb, o, none⟩) n c) ∧ V.cell? ⟨bb, o, none⟩ = some (Iv (y.r : Int)) ∧ V.cell? ⟨bb, o + 1, none⟩ = some (Iv y.v)) (first | with_reducible exact S0 | exact HQ.out) (fail)
  generalize (w.setCell ⟨f, y.r, none⟩ (Iv y.v)).drew = W2 at *
  obtain ⟨h2, k2⟩ := H2.out
  obtain ⟨a1, c1, W1, hrun, k1, e8, fz, hR, hf⟩ := drop_tail h2 HN.out (by have := HN.out; omega) (by omega)
  have hcut := fun W => run_cutL rt30 W (some ⟨bb, o, none⟩) n c 1 (by omega)
  have h8 := h2.ev
  have h8' : (W2.alloc (.cells #[] 93)).cell? ⟨f, 8, none⟩ = some (.slice (some ⟨bb, o, none⟩) n c) := ((Kept.refl [] W2).alloc _).cell_eq h8
  have HR : Hid ((∃ u, IsF_J (W1.setCell ⟨f, 8, none⟩ (.slice a1 (n - 1) c1)) f u ⟨doE b y, t, ver⟩ ∧ Fresh w u) ∧ Kept [f] w (W1.setCell ⟨f, 8, none⟩ (.slice a1 (n - 1) c1))) := ⟨⟨_, hR, fun g hg => by have := hf g hg; have := k2.size; omega⟩, (k2.trans k1 (by simp)).setCell (p := ⟨f, 8, none⟩) (.inl (by simp)) _⟩
  clear H2 h2 k2 k1 hR hf S0 HQ c0 f0 c0' f0'
  have hcut2 : ∀ W : World, (Instr.slice 27 (.slice (some ⟨bb, o, none⟩) n c) (some (.int .i64 1)) none none).run Tryz.prog W = .ok (.slice (cutA (some ⟨bb, o, none⟩) c 1 2) (n - 1) (c - 1)) W := hcut
  clear hcut
  go_wp2_with (at_builtin; refine wpList_append_run 27 27 (.tmp 21) (.tmp 26) rfl (by rfl) _ _ rfl rfl _ _ hrun ?_)
  go_end0
  exact ⟨rfl, HR.out⟩
end
end Go.Proofs.YtngnenbidpojeaaGreatDoor
/-
  same: a journal of the program's held against the document's.
-/
namespace Go.Proofs.YtngnenbidpojeaaGreatDoor
set_option maxRecDepth 100000
open Go.RowKit
set_option linter.unusedVariables false
/-- A world that kept all of another. -/
structure KW (a : World) where
  w : World
  k : Kept [] a w
instance (a : World) : Nonempty (KW a) := ⟨⟨a, Kept.refl [] a⟩⟩
theorem calls_kw {P : Program} {f : FuncId} {args : Array Value} {v : Value} {a : World} {z : KW a} (h : Calls P f args z.w fun e w' => e = .returned v ∧ Kept [] z.w w') : Calls P f args z.w fun e w'' => e = .returned v ∧ ∃ z' : KW a, w'' = z'.w :=
  h.mono fun e w'' h => ⟨h.1, ⟨w'', z.k.trans h.2 (by simp)⟩, rfl⟩
theorem wp_region_kw {P : Program} {C : World → Prop} {id : Nat} {Q : Exit → Act → World → Prop} {a : Act} {w : World} {l : List Oper} (hm : P.follows .mixedOrders = true) (hB : Region.lexB .any l.toArray = true) (hC : C w.drew)
    (h : wpQuiet P l.toArray C (fun a' => ∀ w', C w' → Q .normal a' w') l a) : (Code.region id l.toArray true).wp P Q a w :=
  wp_region_quiet (C := C) hm hB hC (by simpa using h)
section
variable {w : World} {p f : Nat} {v : Value} {j : Jn}
end
end Go.Proofs.YtngnenbidpojeaaGreatDoor
